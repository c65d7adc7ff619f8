/-
  AlarmStops: a timer that is stopped isn't told; one that is set anew is told once; one that was let go, and made again, is Idle.
-/
import Derived.Test.YtkkodhjolgcokaaDoorBook8
namespace Go.Proofs.YtkkodhjolgcokaaDoor
open Go.RowKit Go.Lib
set_option maxRecDepth 100000
set_option linter.unusedVariables false
set_option maxRecDepth 100000 in
set_option maxHeartbeats 32000000 in
theorem stops_walk8 (n0 a0 b0 : Nat) (how : Int) (w : World) (hT : TabAt w) (hn0 : n0 < 18446744073709551616) (ha0 : a0 < 18446744073709551616) (hb0 : b0 < 18446744073709551616) :
    Calls Tryd.prog 5 #[.int .u64 (n0 : Nat), .int .u64 (a0 : Nat), .int .u64 (b0 : Nat), .int .i64 how] w fun e w' => e = .returned (.bool true) ∧ w.grownBy w' none := by
  have C0 := Lib.hid (alive8 w hT)
  have mn := low40 n0 hn0
  have ma := low40 a0 ha0
  have mb := low40 b0 hb0
  have mh := i64and3 how
  have bN : n0 % 1099511627776 < 1099511627776 := Nat.mod_lt _ (by decide)
  have bA : a0 % 1099511627776 < 1099511627776 := Nat.mod_lt _ (by decide)
  have bB : b0 % 1099511627776 < 1099511627776 := Nat.mod_lt _ (by decide)
  generalize n0 % 1099511627776 = N at *
  generalize a0 % 1099511627776 = A at *
  generalize b0 % 1099511627776 = B at *
  have hq : how % 4 = 0 ∨ how % 4 = 1 ∨ how % 4 = 2 ∨ how % 4 = 3 := by omega
  generalize how % 4 = q at *
  have ewA : IntKind.u64.wrap ((N : Int) + (A : Int)) = (N : Int) + (A : Int) := by rw [IntKind.wrap_u64]; omega
  have ewB : IntKind.u64.wrap ((N : Int) + (B : Int)) = (N : Int) + (B : Int) := by rw [IntKind.wrap_u64]; omega
  have TT := Lib.hid hT
  clear hn0 ha0 hb0 hT
  go_enter Tryd.func5, Tryd.ntmps5
  go_wp2_with fail
  refine C0.out.mono ?_
  rintro e u0 ⟨rfl, k⟩
  have G := Lib.hid k
  clear k C0
  have C : Hid (Calls Tryd.prog 8 #[.int .i64 2, .int .u64 (N : Nat)] u0 fun e w' => ∃ bb, e = .returned (.pointer (some ⟨bb, 0, none⟩)) ∧ u0.grownBy w' none ∧ Bo w' u0.heap.size w'.heap.size bb 2 N 0 (two Ti.none Ti.none)) := Lib.hid (by
    have h := book_made 2 N u0 (by decide) (by omega)
    rw [two_none] at h
    exact h)
  go_wp2_with fail
  refine C.out.mono ?_
  rintro e u1 ⟨bb, rfl, k, h⟩
  have hlo : w.heap.size ≤ u0.heap.size := G.out.size
  have hl0 : Hid (0 < u0.heap.size) := Lib.hid (by have := tab_pos TT.out; omega)
  replace G := Lib.hid (G.out.trans k)
  have T := Lib.hid (TT.out.kept G.out)
  obtain ⟨hi, hhi⟩ : ∃ h, h = u1.heap.size := ⟨_, rfl⟩
  rw [← hhi] at h
  have H := Lib.hid h
  generalize u0.heap.size = lo at *
  clear k h C hhi TT
  have C : Hid (Calls Tryd.prog 9 #[.pointer (some ⟨bb, 0, none⟩)] u1 fun e w' => e = .returned (.tuple #[.int .i64 0, .bool true]) ∧ Only lo hi u1 w' ∧ Bo w' lo hi bb 2 N 0 (two Ti.idle Ti.none)) := Lib.hid (by
    have h := bo_make_some 0 H.out T.out (by decide) rfl (fun q h => absurd h (Nat.not_lt_zero q))
    rw [two_up0] at h
    exact h)
  go_wp2_with fail
  refine C.out.mono ?_
  rintro e u2 ⟨rfl, k, h⟩
  replace H := Lib.hid h
  replace G := Lib.hid (Only.on G.out k hlo)
  replace T := Lib.hid (tab_only T.out k hl0.out)
  clear k h C
  have C : Hid (Calls Tryd.prog 9 #[.pointer (some ⟨bb, 0, none⟩)] u2 fun e w' => e = .returned (.tuple #[.int .i64 1, .bool true]) ∧ Only lo hi u2 w' ∧ Bo w' lo hi bb 2 N 0 (two Ti.idle Ti.idle)) := Lib.hid (by
    have h := bo_make_some 1 H.out T.out (by decide) rfl (fun q h => by
      obtain rfl : q = 0 := by omega
      rfl)
    rw [two_up1] at h
    exact h)
  go_wp2_with fail
  refine C.out.mono ?_
  rintro e u3 ⟨rfl, k, h⟩
  replace H := Lib.hid h
  replace G := Lib.hid (Only.on G.out k hlo)
  replace T := Lib.hid (tab_only T.out k hl0.out)
  clear k h C
  have C : Hid (Calls Tryd.prog 10 #[.pointer (some ⟨bb, 0, none⟩), .int .i64 0, .int .u64 1, .int .u64 ((N : Int) + (A : Int)), .int .u64 0] u3 fun e w' => e = .returned (.bool true) ∧ Only lo hi u3 w' ∧ Bo w' lo hi bb 2 N 1 (two ⟨true, 1, 1, N + A, 0, 0⟩ Ti.idle)) := Lib.hid (by
    have h := bo_arm_in 0 1 (N + A) 0 H.out rfl (by decide) (by omega) (by decide) (by decide)
    rw [two_up0, Int.natCast_add] at h
    exact h)
  go_wp2_with fail
  refine C.out.mono ?_
  rintro e u4 ⟨rfl, k, h⟩
  replace H := Lib.hid h
  replace G := Lib.hid (Only.on G.out k hlo)
  replace T := Lib.hid (tab_only T.out k hl0.out)
  clear k h C
  have C : Hid (Calls Tryd.prog 10 #[.pointer (some ⟨bb, 0, none⟩), .int .i64 1, .int .u64 2, .int .u64 ((N : Int) + (A : Int)), .int .u64 0] u4 fun e w' => e = .returned (.bool true) ∧ Only lo hi u4 w' ∧ Bo w' lo hi bb 2 N 2 (two ⟨true, 1, 1, N + A, 0, 0⟩ ⟨true, 1, 2, N + A, 0, 1⟩)) := Lib.hid (by
    have h := bo_arm_in 1 2 (N + A) 0 H.out rfl (by decide) (by omega) (by decide) (by decide)
    rw [two_up1, Int.natCast_add] at h
    exact h)
  go_wp2_with fail
  refine C.out.mono ?_
  rintro e u5 ⟨rfl, k, h⟩
  replace H := Lib.hid h
  replace G := Lib.hid (Only.on G.out k hlo)
  replace T := Lib.hid (tab_only T.out k hl0.out)
  clear k h C
  rcases hq with hq | hq | hq | hq
  · subst hq
    have C : Hid (Calls Tryd.prog 16 #[.pointer (some ⟨bb, 0, none⟩), .int .i64 0] u5 fun e w' => e = .returned (.bool true) ∧ Only lo hi u5 w' ∧ Bo w' lo hi bb 2 N 2 (two Ti.idle ⟨true, 1, 2, N + A, 0, 1⟩)) := Lib.hid (by
      have h := bo_stop_in 0 H.out (by show (1 : Nat) ≠ 0; decide)
      rw [two_up0] at h
      exact h)
    go_wp2_with fail
    refine C.out.mono ?_
    rintro e u6 ⟨rfl, k, h⟩
    replace H := Lib.hid h
    replace G := Lib.hid (Only.on G.out k hlo)
    clear k h C
    have C : Hid (Calls Tryd.prog 16 #[.pointer (some ⟨bb, 0, none⟩), .int .i64 0] u6 fun e w' => e = .returned (.bool false) ∧ Only lo hi u6 w' ∧ Bo w' lo hi bb 2 N 2 (two Ti.idle ⟨true, 1, 2, N + A, 0, 1⟩)) := Lib.hid (by
      exact bo_stop_no 0 H.out rfl)
    go_wp2_with fail
    refine C.out.mono ?_
    rintro e u7 ⟨rfl, k, h⟩
    replace H := Lib.hid h
    replace G := Lib.hid (Only.on G.out k hlo)
    clear k h C
    have C : Hid (Calls Tryd.prog 11 #[.pointer (some ⟨bb, 0, none⟩), .int .u64 ((N : Int) + (A : Int))] u7 fun e w' => ∃ r cp, e = .returned (.slice (some ⟨r, 0, none⟩) 1 cp) ∧ Only lo hi u7 w' ∧ Bo w' lo hi bb 2 (max N (N + A)) 2 (two Ti.idle ⟨true, 2, 2, N + A, 0, 1⟩)) := Lib.hid (by
      have h := bo_to2 (N + A) H.out (by omega)
      have t0 : ¬ Ti.told Ti.idle (max N (N + A)) := fun h => absurd h.1 (by decide)
      have t1 : Ti.told ⟨true, 1, 2, N + A, 0, 1⟩ (max N (N + A)) := ⟨rfl, by show N + A ≤ _; omega⟩
      rw [if_neg t0, if_neg t0, if_pos t1, if_pos t1, Int.natCast_add] at h
      refine h.mono ?_
      rintro e w' ⟨R, r, cp, he, hr, hk, hb, hx⟩
      exact ⟨r, cp, he, hk, hb⟩)
    go_wp2_with fail
    refine C.out.mono ?_
    rintro e u8 ⟨r, cp, rfl, k, h⟩
    replace H := Lib.hid h
    replace G := Lib.hid (Only.on G.out k hlo)
    clear k h C
    have C : Hid (Calls Tryd.prog 12 #[.pointer (some ⟨bb, 0, none⟩), .int .i64 0] u8 fun e w' => e = .returned (.tuple #[.agg #[.int .i64 0, .int .u64 0, .int .u64 0, .int .u64 0], .bool true]) ∧ u8.grownBy w' none) := Lib.hid (by
      have h := bo_look_in 0 H.out
      rw [two_0] at h
      exact h)
    go_wp2_with fail
    refine C.out.mono ?_
    rintro e u9 ⟨rfl, k⟩
    have HZ : Hid (hi ≤ u9.heap.size) := Lib.hid (Nat.le_trans H.out.sz k.size)
    replace k := k.trans (World.grownBy_alloc u9 (.cells #[.int .i64 0, .int .u64 0, .int .u64 0, .int .u64 0] 33) none)
    replace H := Lib.hid (H.out.grown k)
    replace G := Lib.hid (G.out.trans k)
    clear k C
    have x0 : (u9.alloc (.cells #[.int .i64 0, .int .u64 0, .int .u64 0, .int .u64 0] 33)).cell? ⟨u9.heap.size, 0, none⟩ = some (.int .i64 0) := World.cell?_alloc_new ..
    have x1 : (u9.alloc (.cells #[.int .i64 0, .int .u64 0, .int .u64 0, .int .u64 0] 33)).cell? ⟨u9.heap.size, 1, none⟩ = some (.int .u64 0) := World.cell?_alloc_new ..
    have x2 : (u9.alloc (.cells #[.int .i64 0, .int .u64 0, .int .u64 0, .int .u64 0] 33)).cell? ⟨u9.heap.size, 2, none⟩ = some (.int .u64 0) := World.cell?_alloc_new ..
    have x3 : (u9.alloc (.cells #[.int .i64 0, .int .u64 0, .int .u64 0, .int .u64 0] 33)).cell? ⟨u9.heap.size, 3, none⟩ = some (.int .u64 0) := World.cell?_alloc_new ..
    have C : Hid (Calls Tryd.prog 13 #[.pointer (some ⟨bb, 0, none⟩), .int .i64 1, .int .u64 ((N : Int) + (A : Int))] (u9.alloc (.cells #[.int .i64 0, .int .u64 0, .int .u64 0, .int .u64 0] 33)) fun e w' => e = .returned (.int .u64 1) ∧ Only lo hi (u9.alloc (.cells #[.int .i64 0, .int .u64 0, .int .u64 0, .int .u64 0] 33)) w') := Lib.hid (by
      have h := bo_sent_in 1 (N + A) H.out (by omega) (by decide)
      rw [two_1, (sent_one ⟨true, 2, 2, N + A, 0, 1⟩ (N + A) 2 rfl (Or.inl rfl)).1, Int.natCast_add] at h
      exact h.mono fun e w' h => ⟨h.1, h.2.1⟩)
    go_wp2_with fail
    refine C.out.mono ?_
    rintro e u10 ⟨rfl, k⟩
    replace G := Lib.hid (Only.on G.out k hlo)
    replace x0 := (k.cell' u9.heap.size 0 (by simp) (Or.inr HZ.out)).trans x0
    replace x1 := (k.cell' u9.heap.size 1 (by simp) (Or.inr HZ.out)).trans x1
    replace x2 := (k.cell' u9.heap.size 2 (by simp) (Or.inr HZ.out)).trans x2
    replace x3 := (k.cell' u9.heap.size 3 (by simp) (Or.inr HZ.out)).trans x3
    clear k C H HZ
    generalize u9.heap.size = xb at *
    go_wp2
    go_ret
    exact ⟨rfl, G.out⟩
  · subst hq
    have C : Hid (Calls Tryd.prog 10 #[.pointer (some ⟨bb, 0, none⟩), .int .i64 0, .int .u64 3, .int .u64 ((N : Int) + (B : Int)), .int .u64 0] u5 fun e w' => e = .returned (.bool true) ∧ Only lo hi u5 w' ∧ Bo w' lo hi bb 2 N 3 (two ⟨true, 1, 3, N + B, 0, 2⟩ ⟨true, 1, 2, N + A, 0, 1⟩)) := Lib.hid (by
      have h := bo_arm_in 0 3 (N + B) 0 H.out rfl (by decide) (by omega) (by decide) (by decide)
      rw [two_up0, Int.natCast_add] at h
      exact h)
    go_wp2_with fail
    refine C.out.mono ?_
    rintro e u6 ⟨rfl, k, h⟩
    replace H := Lib.hid h
    replace G := Lib.hid (Only.on G.out k hlo)
    clear k h C
    by_cases hBA : B ≤ A
    · have qBA : (B : Int) ≤ (A : Int) := by omega
      have C : Hid (Calls Tryd.prog 11 #[.pointer (some ⟨bb, 0, none⟩), .int .u64 ((N : Int) + (A : Int))] u6 fun e w' => ∃ r cp, e = .returned (.slice (some ⟨r, 0, none⟩) 2 cp) ∧ Only lo hi u6 w' ∧ Bo w' lo hi bb 2 (max N (N + A)) 3 (two ⟨true, 2, 3, N + B, 0, 2⟩ ⟨true, 2, 2, N + A, 0, 1⟩)) := Lib.hid (by
        have h := bo_to2 (N + A) H.out (by omega)
        have t0 : Ti.told ⟨true, 1, 3, N + B, 0, 2⟩ (max N (N + A)) := ⟨rfl, by show N + B ≤ _; omega⟩
        have t1 : Ti.told ⟨true, 1, 2, N + A, 0, 1⟩ (max N (N + A)) := ⟨rfl, by show N + A ≤ _; omega⟩
        rw [if_pos t0, if_pos t0, if_pos t1, if_pos t1, Int.natCast_add] at h
        refine h.mono ?_
        rintro e w' ⟨R, r, cp, he, hr, hk, hb, hx⟩
        exact ⟨r, cp, he, hk, hb⟩)
      go_wp2_with fail
      refine C.out.mono ?_
      rintro e u7 ⟨r, cp, rfl, k, h⟩
      replace H := Lib.hid h
      replace G := Lib.hid (Only.on G.out k hlo)
      clear k h C
      have C : Hid (Calls Tryd.prog 12 #[.pointer (some ⟨bb, 0, none⟩), .int .i64 0] u7 fun e w' => e = .returned (.tuple #[.agg #[.int .i64 2, .int .u64 3, .int .u64 ((N : Int) + (B : Int)), .int .u64 0], .bool true]) ∧ u7.grownBy w' none) := Lib.hid (by
        have h := bo_look_in 0 H.out
        rw [two_0] at h
        exact h)
      go_wp2_with fail
      refine C.out.mono ?_
      rintro e u8 ⟨rfl, k⟩
      have HZ : Hid (hi ≤ u8.heap.size) := Lib.hid (Nat.le_trans H.out.sz k.size)
      replace k := k.trans (World.grownBy_alloc u8 (.cells #[.int .i64 2, .int .u64 3, .int .u64 ((N : Int) + (B : Int)), .int .u64 0] 33) none)
      replace H := Lib.hid (H.out.grown k)
      replace G := Lib.hid (G.out.trans k)
      clear k C
      have x0 : (u8.alloc (.cells #[.int .i64 2, .int .u64 3, .int .u64 ((N : Int) + (B : Int)), .int .u64 0] 33)).cell? ⟨u8.heap.size, 0, none⟩ = some (.int .i64 2) := World.cell?_alloc_new ..
      have x1 : (u8.alloc (.cells #[.int .i64 2, .int .u64 3, .int .u64 ((N : Int) + (B : Int)), .int .u64 0] 33)).cell? ⟨u8.heap.size, 1, none⟩ = some (.int .u64 3) := World.cell?_alloc_new ..
      have x2 : (u8.alloc (.cells #[.int .i64 2, .int .u64 3, .int .u64 ((N : Int) + (B : Int)), .int .u64 0] 33)).cell? ⟨u8.heap.size, 2, none⟩ = some (.int .u64 ((N : Int) + (B : Int))) := World.cell?_alloc_new ..
      have x3 : (u8.alloc (.cells #[.int .i64 2, .int .u64 3, .int .u64 ((N : Int) + (B : Int)), .int .u64 0] 33)).cell? ⟨u8.heap.size, 3, none⟩ = some (.int .u64 0) := World.cell?_alloc_new ..
      have C : Hid (Calls Tryd.prog 13 #[.pointer (some ⟨bb, 0, none⟩), .int .i64 1, .int .u64 ((N : Int) + (A : Int))] (u8.alloc (.cells #[.int .i64 2, .int .u64 3, .int .u64 ((N : Int) + (B : Int)), .int .u64 0] 33)) fun e w' => e = .returned (.int .u64 1) ∧ Only lo hi (u8.alloc (.cells #[.int .i64 2, .int .u64 3, .int .u64 ((N : Int) + (B : Int)), .int .u64 0] 33)) w') := Lib.hid (by
        have h := bo_sent_in 1 (N + A) H.out (by omega) (by decide)
        rw [two_1, (sent_one ⟨true, 2, 2, N + A, 0, 1⟩ (N + A) 3 rfl (Or.inl rfl)).1, Int.natCast_add] at h
        exact h.mono fun e w' h => ⟨h.1, h.2.1⟩)
      go_wp2_with fail
      refine C.out.mono ?_
      rintro e u9 ⟨rfl, k⟩
      replace G := Lib.hid (Only.on G.out k hlo)
      replace x0 := (k.cell' u8.heap.size 0 (by simp) (Or.inr HZ.out)).trans x0
      replace x1 := (k.cell' u8.heap.size 1 (by simp) (Or.inr HZ.out)).trans x1
      replace x2 := (k.cell' u8.heap.size 2 (by simp) (Or.inr HZ.out)).trans x2
      replace x3 := (k.cell' u8.heap.size 3 (by simp) (Or.inr HZ.out)).trans x3
      clear k C H HZ
      generalize u8.heap.size = xb at *
      go_wp2
      go_ret
      exact ⟨rfl, G.out⟩
    · have qBA : ¬ (B : Int) ≤ (A : Int) := by omega
      have C : Hid (Calls Tryd.prog 11 #[.pointer (some ⟨bb, 0, none⟩), .int .u64 ((N : Int) + (A : Int))] u6 fun e w' => ∃ r cp, e = .returned (.slice (some ⟨r, 0, none⟩) 1 cp) ∧ Only lo hi u6 w' ∧ Bo w' lo hi bb 2 (max N (N + A)) 3 (two ⟨true, 1, 3, N + B, 0, 2⟩ ⟨true, 2, 2, N + A, 0, 1⟩)) := Lib.hid (by
        have h := bo_to2 (N + A) H.out (by omega)
        have t0 : ¬ Ti.told ⟨true, 1, 3, N + B, 0, 2⟩ (max N (N + A)) := fun h => by
          have h2 : N + B ≤ max N (N + A) := h.2
          omega
        have t1 : Ti.told ⟨true, 1, 2, N + A, 0, 1⟩ (max N (N + A)) := ⟨rfl, by show N + A ≤ _; omega⟩
        rw [if_neg t0, if_neg t0, if_pos t1, if_pos t1, Int.natCast_add] at h
        refine h.mono ?_
        rintro e w' ⟨R, r, cp, he, hr, hk, hb, hx⟩
        exact ⟨r, cp, he, hk, hb⟩)
      go_wp2_with fail
      refine C.out.mono ?_
      rintro e u7 ⟨r, cp, rfl, k, h⟩
      replace H := Lib.hid h
      replace G := Lib.hid (Only.on G.out k hlo)
      clear k h C
      have C : Hid (Calls Tryd.prog 12 #[.pointer (some ⟨bb, 0, none⟩), .int .i64 0] u7 fun e w' => e = .returned (.tuple #[.agg #[.int .i64 1, .int .u64 3, .int .u64 ((N : Int) + (B : Int)), .int .u64 0], .bool true]) ∧ u7.grownBy w' none) := Lib.hid (by
        have h := bo_look_in 0 H.out
        rw [two_0] at h
        exact h)
      go_wp2_with fail
      refine C.out.mono ?_
      rintro e u8 ⟨rfl, k⟩
      have HZ : Hid (hi ≤ u8.heap.size) := Lib.hid (Nat.le_trans H.out.sz k.size)
      replace k := k.trans (World.grownBy_alloc u8 (.cells #[.int .i64 1, .int .u64 3, .int .u64 ((N : Int) + (B : Int)), .int .u64 0] 33) none)
      replace H := Lib.hid (H.out.grown k)
      replace G := Lib.hid (G.out.trans k)
      clear k C
      have x0 : (u8.alloc (.cells #[.int .i64 1, .int .u64 3, .int .u64 ((N : Int) + (B : Int)), .int .u64 0] 33)).cell? ⟨u8.heap.size, 0, none⟩ = some (.int .i64 1) := World.cell?_alloc_new ..
      have x1 : (u8.alloc (.cells #[.int .i64 1, .int .u64 3, .int .u64 ((N : Int) + (B : Int)), .int .u64 0] 33)).cell? ⟨u8.heap.size, 1, none⟩ = some (.int .u64 3) := World.cell?_alloc_new ..
      have x2 : (u8.alloc (.cells #[.int .i64 1, .int .u64 3, .int .u64 ((N : Int) + (B : Int)), .int .u64 0] 33)).cell? ⟨u8.heap.size, 2, none⟩ = some (.int .u64 ((N : Int) + (B : Int))) := World.cell?_alloc_new ..
      have x3 : (u8.alloc (.cells #[.int .i64 1, .int .u64 3, .int .u64 ((N : Int) + (B : Int)), .int .u64 0] 33)).cell? ⟨u8.heap.size, 3, none⟩ = some (.int .u64 0) := World.cell?_alloc_new ..
      have C : Hid (Calls Tryd.prog 13 #[.pointer (some ⟨bb, 0, none⟩), .int .i64 1, .int .u64 ((N : Int) + (A : Int))] (u8.alloc (.cells #[.int .i64 1, .int .u64 3, .int .u64 ((N : Int) + (B : Int)), .int .u64 0] 33)) fun e w' => e = .returned (.int .u64 1) ∧ Only lo hi (u8.alloc (.cells #[.int .i64 1, .int .u64 3, .int .u64 ((N : Int) + (B : Int)), .int .u64 0] 33)) w') := Lib.hid (by
        have h := bo_sent_in 1 (N + A) H.out (by omega) (by decide)
        rw [two_1, (sent_one ⟨true, 2, 2, N + A, 0, 1⟩ (N + A) 3 rfl (Or.inl rfl)).1, Int.natCast_add] at h
        exact h.mono fun e w' h => ⟨h.1, h.2.1⟩)
      go_wp2_with fail
      refine C.out.mono ?_
      rintro e u9 ⟨rfl, k⟩
      replace G := Lib.hid (Only.on G.out k hlo)
      replace x0 := (k.cell' u8.heap.size 0 (by simp) (Or.inr HZ.out)).trans x0
      replace x1 := (k.cell' u8.heap.size 1 (by simp) (Or.inr HZ.out)).trans x1
      replace x2 := (k.cell' u8.heap.size 2 (by simp) (Or.inr HZ.out)).trans x2
      replace x3 := (k.cell' u8.heap.size 3 (by simp) (Or.inr HZ.out)).trans x3
      clear k C H HZ
      generalize u8.heap.size = xb at *
      go_wp2
      go_ret
      exact ⟨rfl, G.out⟩
  · subst hq
    have C : Hid (Calls Tryd.prog 17 #[.pointer (some ⟨bb, 0, none⟩), .int .i64 0] u5 fun e w' => e = .returned (.bool true) ∧ Only lo hi u5 w' ∧ Bo w' lo hi bb 2 N 2 (two Ti.none ⟨true, 1, 2, N + A, 0, 1⟩)) := Lib.hid (by
      have h := bo_free_in 0 H.out
      rw [two_up0] at h
      exact h)
    go_wp2_with fail
    refine C.out.mono ?_
    rintro e u6 ⟨rfl, k, h⟩
    replace H := Lib.hid h
    replace G := Lib.hid (Only.on G.out k hlo)
    replace T := Lib.hid (tab_only T.out k hl0.out)
    clear k h C
    have C : Hid (Calls Tryd.prog 9 #[.pointer (some ⟨bb, 0, none⟩)] u6 fun e w' => e = .returned (.tuple #[.int .i64 0, .bool true]) ∧ Only lo hi u6 w' ∧ Bo w' lo hi bb 2 N 2 (two Ti.idle ⟨true, 1, 2, N + A, 0, 1⟩)) := Lib.hid (by
      have h := bo_make_some 0 H.out T.out (by decide) rfl (fun q h => absurd h (Nat.not_lt_zero q))
      rw [two_up0] at h
      exact h)
    go_wp2_with fail
    refine C.out.mono ?_
    rintro e u7 ⟨rfl, k, h⟩
    replace H := Lib.hid h
    replace G := Lib.hid (Only.on G.out k hlo)
    clear k h C
    have C : Hid (Calls Tryd.prog 11 #[.pointer (some ⟨bb, 0, none⟩), .int .u64 ((N : Int) + (A : Int))] u7 fun e w' => ∃ r cp, e = .returned (.slice (some ⟨r, 0, none⟩) 1 cp) ∧ Only lo hi u7 w' ∧ Bo w' lo hi bb 2 (max N (N + A)) 2 (two Ti.idle ⟨true, 2, 2, N + A, 0, 1⟩)) := Lib.hid (by
      have h := bo_to2 (N + A) H.out (by omega)
      have t0 : ¬ Ti.told Ti.idle (max N (N + A)) := fun h => absurd h.1 (by decide)
      have t1 : Ti.told ⟨true, 1, 2, N + A, 0, 1⟩ (max N (N + A)) := ⟨rfl, by show N + A ≤ _; omega⟩
      rw [if_neg t0, if_neg t0, if_pos t1, if_pos t1, Int.natCast_add] at h
      refine h.mono ?_
      rintro e w' ⟨R, r, cp, he, hr, hk, hb, hx⟩
      exact ⟨r, cp, he, hk, hb⟩)
    go_wp2_with fail
    refine C.out.mono ?_
    rintro e u8 ⟨r, cp, rfl, k, h⟩
    replace H := Lib.hid h
    replace G := Lib.hid (Only.on G.out k hlo)
    clear k h C
    have C : Hid (Calls Tryd.prog 12 #[.pointer (some ⟨bb, 0, none⟩), .int .i64 0] u8 fun e w' => e = .returned (.tuple #[.agg #[.int .i64 0, .int .u64 0, .int .u64 0, .int .u64 0], .bool true]) ∧ u8.grownBy w' none) := Lib.hid (by
      have h := bo_look_in 0 H.out
      rw [two_0] at h
      exact h)
    go_wp2_with fail
    refine C.out.mono ?_
    rintro e u9 ⟨rfl, k⟩
    have HZ : Hid (hi ≤ u9.heap.size) := Lib.hid (Nat.le_trans H.out.sz k.size)
    replace k := k.trans (World.grownBy_alloc u9 (.cells #[.int .i64 0, .int .u64 0, .int .u64 0, .int .u64 0] 33) none)
    replace H := Lib.hid (H.out.grown k)
    replace G := Lib.hid (G.out.trans k)
    clear k C
    have x0 : (u9.alloc (.cells #[.int .i64 0, .int .u64 0, .int .u64 0, .int .u64 0] 33)).cell? ⟨u9.heap.size, 0, none⟩ = some (.int .i64 0) := World.cell?_alloc_new ..
    have x1 : (u9.alloc (.cells #[.int .i64 0, .int .u64 0, .int .u64 0, .int .u64 0] 33)).cell? ⟨u9.heap.size, 1, none⟩ = some (.int .u64 0) := World.cell?_alloc_new ..
    have x2 : (u9.alloc (.cells #[.int .i64 0, .int .u64 0, .int .u64 0, .int .u64 0] 33)).cell? ⟨u9.heap.size, 2, none⟩ = some (.int .u64 0) := World.cell?_alloc_new ..
    have x3 : (u9.alloc (.cells #[.int .i64 0, .int .u64 0, .int .u64 0, .int .u64 0] 33)).cell? ⟨u9.heap.size, 3, none⟩ = some (.int .u64 0) := World.cell?_alloc_new ..
    have C : Hid (Calls Tryd.prog 13 #[.pointer (some ⟨bb, 0, none⟩), .int .i64 1, .int .u64 ((N : Int) + (A : Int))] (u9.alloc (.cells #[.int .i64 0, .int .u64 0, .int .u64 0, .int .u64 0] 33)) fun e w' => e = .returned (.int .u64 1) ∧ Only lo hi (u9.alloc (.cells #[.int .i64 0, .int .u64 0, .int .u64 0, .int .u64 0] 33)) w') := Lib.hid (by
      have h := bo_sent_in 1 (N + A) H.out (by omega) (by decide)
      rw [two_1, (sent_one ⟨true, 2, 2, N + A, 0, 1⟩ (N + A) 2 rfl (Or.inl rfl)).1, Int.natCast_add] at h
      exact h.mono fun e w' h => ⟨h.1, h.2.1⟩)
    go_wp2_with fail
    refine C.out.mono ?_
    rintro e u10 ⟨rfl, k⟩
    replace G := Lib.hid (Only.on G.out k hlo)
    replace x0 := (k.cell' u9.heap.size 0 (by simp) (Or.inr HZ.out)).trans x0
    replace x1 := (k.cell' u9.heap.size 1 (by simp) (Or.inr HZ.out)).trans x1
    replace x2 := (k.cell' u9.heap.size 2 (by simp) (Or.inr HZ.out)).trans x2
    replace x3 := (k.cell' u9.heap.size 3 (by simp) (Or.inr HZ.out)).trans x3
    clear k C H HZ
    generalize u9.heap.size = xb at *
    go_wp2
    go_ret
    exact ⟨rfl, G.out⟩
  · subst hq
    have C : Hid (Calls Tryd.prog 11 #[.pointer (some ⟨bb, 0, none⟩), .int .u64 ((N : Int) + (A : Int))] u5 fun e w' => ∃ r cp, e = .returned (.slice (some ⟨r, 0, none⟩) 2 cp) ∧ Only lo hi u5 w' ∧ Bo w' lo hi bb 2 (max N (N + A)) 2 (two ⟨true, 2, 1, N + A, 0, 0⟩ ⟨true, 2, 2, N + A, 0, 1⟩)) := Lib.hid (by
      have h := bo_to2 (N + A) H.out (by omega)
      have t0 : Ti.told ⟨true, 1, 1, N + A, 0, 0⟩ (max N (N + A)) := ⟨rfl, by show N + A ≤ _; omega⟩
      have t1 : Ti.told ⟨true, 1, 2, N + A, 0, 1⟩ (max N (N + A)) := ⟨rfl, by show N + A ≤ _; omega⟩
      rw [if_pos t0, if_pos t0, if_pos t1, if_pos t1, Int.natCast_add] at h
      refine h.mono ?_
      rintro e w' ⟨R, r, cp, he, hr, hk, hb, hx⟩
      exact ⟨r, cp, he, hk, hb⟩)
    go_wp2_with fail
    refine C.out.mono ?_
    rintro e u6 ⟨r, cp, rfl, k, h⟩
    replace H := Lib.hid h
    replace G := Lib.hid (Only.on G.out k hlo)
    clear k h C
    have C : Hid (Calls Tryd.prog 12 #[.pointer (some ⟨bb, 0, none⟩), .int .i64 0] u6 fun e w' => e = .returned (.tuple #[.agg #[.int .i64 2, .int .u64 1, .int .u64 ((N : Int) + (A : Int)), .int .u64 0], .bool true]) ∧ u6.grownBy w' none) := Lib.hid (by
      have h := bo_look_in 0 H.out
      rw [two_0] at h
      exact h)
    go_wp2_with fail
    refine C.out.mono ?_
    rintro e u7 ⟨rfl, k⟩
    have HZ : Hid (hi ≤ u7.heap.size) := Lib.hid (Nat.le_trans H.out.sz k.size)
    replace k := k.trans (World.grownBy_alloc u7 (.cells #[.int .i64 2, .int .u64 1, .int .u64 ((N : Int) + (A : Int)), .int .u64 0] 33) none)
    replace H := Lib.hid (H.out.grown k)
    replace G := Lib.hid (G.out.trans k)
    clear k C
    have x0 : (u7.alloc (.cells #[.int .i64 2, .int .u64 1, .int .u64 ((N : Int) + (A : Int)), .int .u64 0] 33)).cell? ⟨u7.heap.size, 0, none⟩ = some (.int .i64 2) := World.cell?_alloc_new ..
    have x1 : (u7.alloc (.cells #[.int .i64 2, .int .u64 1, .int .u64 ((N : Int) + (A : Int)), .int .u64 0] 33)).cell? ⟨u7.heap.size, 1, none⟩ = some (.int .u64 1) := World.cell?_alloc_new ..
    have x2 : (u7.alloc (.cells #[.int .i64 2, .int .u64 1, .int .u64 ((N : Int) + (A : Int)), .int .u64 0] 33)).cell? ⟨u7.heap.size, 2, none⟩ = some (.int .u64 ((N : Int) + (A : Int))) := World.cell?_alloc_new ..
    have x3 : (u7.alloc (.cells #[.int .i64 2, .int .u64 1, .int .u64 ((N : Int) + (A : Int)), .int .u64 0] 33)).cell? ⟨u7.heap.size, 3, none⟩ = some (.int .u64 0) := World.cell?_alloc_new ..
    have C : Hid (Calls Tryd.prog 13 #[.pointer (some ⟨bb, 0, none⟩), .int .i64 1, .int .u64 ((N : Int) + (A : Int))] (u7.alloc (.cells #[.int .i64 2, .int .u64 1, .int .u64 ((N : Int) + (A : Int)), .int .u64 0] 33)) fun e w' => e = .returned (.int .u64 1) ∧ Only lo hi (u7.alloc (.cells #[.int .i64 2, .int .u64 1, .int .u64 ((N : Int) + (A : Int)), .int .u64 0] 33)) w') := Lib.hid (by
      have h := bo_sent_in 1 (N + A) H.out (by omega) (by decide)
      rw [two_1, (sent_one ⟨true, 2, 2, N + A, 0, 1⟩ (N + A) 2 rfl (Or.inl rfl)).1, Int.natCast_add] at h
      exact h.mono fun e w' h => ⟨h.1, h.2.1⟩)
    go_wp2_with fail
    refine C.out.mono ?_
    rintro e u8 ⟨rfl, k⟩
    replace G := Lib.hid (Only.on G.out k hlo)
    replace x0 := (k.cell' u7.heap.size 0 (by simp) (Or.inr HZ.out)).trans x0
    replace x1 := (k.cell' u7.heap.size 1 (by simp) (Or.inr HZ.out)).trans x1
    replace x2 := (k.cell' u7.heap.size 2 (by simp) (Or.inr HZ.out)).trans x2
    replace x3 := (k.cell' u7.heap.size 3 (by simp) (Or.inr HZ.out)).trans x3
    clear k C H HZ
    generalize u7.heap.size = xb at *
    go_wp2
    go_ret
    exact ⟨rfl, G.out⟩
end Go.Proofs.YtkkodhjolgcokaaDoor
