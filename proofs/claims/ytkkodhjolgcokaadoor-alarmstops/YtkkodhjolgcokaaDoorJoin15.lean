/-
  Texts of one claim, joined, one behind the other.
-/
import Derived.Test.YtkkodhjolgcokaaDoorJoin14
import Derived.Test.YtkkodhjolgcokaaDoorJoin4
/-
  What 'book' of the laws of alarm makes; To of a book of two timers.
-/
namespace Go.Proofs.YtkkodhjolgcokaaDoor
open Go.RowKit Go.Lib
set_option maxRecDepth 100000

set_option maxRecDepth 100000 in
theorem book_made (room now : Nat) (w : World) (hr : room ≤ 256) (hnow : now < 18446744073709551616) : Calls Tryd.prog 8 #[.int .i64 room, .int .u64 (now : Nat)] w fun e w' => ∃ bb, e = .returned (.pointer (some ⟨bb, 0, none⟩)) ∧ w.grownBy w' none ∧ Bo w' w.heap.size w'.heap.size bb room now 0 (fun _ => Ti.none) := by
  have ka := World.grownBy_alloc w (.cells #[.int .i64 2, .int .i64 room] 3) none
  have CA := Lib.hid (SA.new_made _ 2 2 _ _ (caps_two w 2 room))
  have KA := Lib.hid ka
  clear ka
  go_enter Tryd.func8, Tryd.ntmps8
  go_wp2_with fail
  refine CA.out.mono ?_
  rintro e u0 ⟨sb, rb, rfl, q0, A0⟩
  have g0 := grow_to KA.out q0
  have hlo : w.heap.size ≤ (w.alloc (.cells #[.int .i64 2, .int .i64 room] 3)).heap.size := KA.out.size
  generalize (w.alloc (.cells #[.int .i64 2, .int .i64 room] 3)).heap.size = lo at A0 hlo
  clear CA q0
  have C1 : Hid (Calls Tryd.prog 19 #[.pointer (some ⟨sb, 0, none⟩), .int .i64 1] u0 fun e w' => e = .returned (.pointer (some ⟨rb, 2, none⟩)) ∧ u0.grownBy w' none) := Lib.hid (SA.region_in 1 A0 (by decide))
  go_wp2_with fail
  refine C1.out.mono ?_
  rintro e u1 ⟨rfl, q1⟩
  have A1 := A0.grown q1
  have g1 := grow_to g0 q1
  clear C1 A0 g0 q1
  have C1 : Hid (Calls Tryd.prog 20 #[.pointer (some ⟨rb, 2, none⟩), .int .u64 (now : Nat)] u1 fun e w' => ∃ bb, e = .returned (.pointer (some ⟨bb, 0, none⟩)) ∧ u1.grownBy w' none ∧ Bo w' lo w'.heap.size bb room now 0 (fun _ => Ti.none)) := Lib.hid (by
    have := bo_new 1 now hnow (by decide) A1
    have e1 : nOf (fun j => if j = 0 then 2 else (room : Int)) 1 = room := by simp [nOf, roomN]; omega
    rwa [e1] at this)
  go_wp2_with fail
  refine C1.out.mono ?_
  rintro e w0 ⟨tb, rfl, k0, H0⟩
  have G0 := grow_to g1 k0
  clear C1 A1 g1 k0
  go_wp2
  go_ret
  obtain ⟨rb, ro, pb, po, b, g, l, h, wb, H, r, s⟩ := H0
  exact ⟨tb, rfl, G0, rb, ro, pb, po, b, g, l, h, wb, H, by omega, s⟩

/-- Is a timer told at a time? -/
def Ti.told (x : Ti) (t : Nat) : Prop := x.st = 1 ∧ x.t ≤ t
instance (x : Ti) (t : Nat) : Decidable (x.told t) := inferInstanceAs (Decidable (_ ∧ _))
theorem len_two {R : List Nat} (hn : R.Nodup) (h : ∀ k, k ∈ R → k < 2) : R.length = (if 0 ∈ R then 1 else 0) + (if 1 ∈ R then 1 else 0) := by
  match R, hn, h with
  | [], _, _ => rfl
  | [x], _, h =>
    have h1 := h x (by simp)
    have : x = 0 ∨ x = 1 := by omega
    rcases this with rfl | rfl <;> rfl
  | [x, y], hn, h =>
    have h1 := h x (by simp)
    have h2 := h y (by simp)
    have h3 : x ≠ y := by simpa using hn
    have : (x = 0 ∧ y = 1) ∨ (x = 1 ∧ y = 0) := by omega
    rcases this with ⟨rfl, rfl⟩ | ⟨rfl, rfl⟩ <;> rfl
  | x :: y :: z :: l, hn, h =>
    have h1 := h x (by simp)
    have h2 := h y (by simp)
    have h3 := h z (by simp)
    simp at hn
    omega
theorem bo_to2 {w : World} {lo hi bb n now tu : Nat} {X Y : Ti} (tg : Nat) (H : Bo w lo hi bb n now tu (two X Y)) (htg : tg < 18446744073709551616) :
    Calls Tryd.prog 11 #[.pointer (some ⟨bb, 0, none⟩), .int .u64 (tg : Nat)] w fun e w' => ∃ (R : List Nat) (r cp : Nat), e = .returned (.slice (some ⟨r, 0, none⟩) ((if X.told (max now tg) then 1 else 0) + (if Y.told (max now tg) then 1 else 0) : Nat) cp) ∧ RowOf w' w.heap.size r cp R ∧ Only lo hi w w' ∧ Bo w' lo hi bb n (max now tg) tu (two (if X.told (max now tg) then X.due else X) (if Y.told (max now tg) then Y.due else Y)) ∧ R.Nodup ∧ (∀ k, k ∈ R ↔ (k = 0 ∧ X.told (max now tg)) ∨ (k = 1 ∧ Y.told (max now tg))) := by
  refine (bo_to tg H htg).mono ?_
  rintro e w' ⟨R, r, cp, he, hr, hk, hb, hn, hm, hs⟩
  have hl := two_lt X Y R _ hm
  have h0 : 0 ∈ R ↔ X.told (max now tg) := hm 0
  have h1 : 1 ∈ R ↔ Y.told (max now tg) := hm 1
  rw [two_due _ _ _ hl] at hb
  rw [len_two hn hl] at he
  simp only [h0, h1] at hb he
  refine ⟨R, r, cp, he, hr, hk, hb, hn, fun k => ⟨fun h => ?_, fun h => ?_⟩⟩
  · have hk2 := hl k h
    match k, hk2 with
    | 0, _ => exact Or.inl ⟨rfl, h0.1 h⟩
    | 1, _ => exact Or.inr ⟨rfl, h1.1 h⟩
  · rcases h with ⟨rfl, h⟩ | ⟨rfl, h⟩
    · exact h0.2 h
    · exact h1.2 h
theorem u64_low (i : Nat) (n : Nat) (hi : i ≤ 63) (h : n < 18446744073709551616) : bits .and .u64 (n : Int) ((2 ^ i - 1 : Nat) : Int) = ((n % 2 ^ i : Nat) : Int) := by
  have hp : 2 ^ i ≤ 2 ^ 63 := Nat.pow_le_pow_right (by decide) hi
  have hp0 : 0 < 2 ^ i := Nat.two_pow_pos i
  rw [bits_and_u64_nat n (2 ^ i - 1) h (by omega), Nat.and_two_pow_sub_one_eq_mod]
theorem low40 (n : Nat) (h : n < 18446744073709551616) : bits .and .u64 (n : Int) 1099511627775 = ((n % 1099511627776 : Nat) : Int) := by
  have := u64_low 40 n (by decide) h
  simpa using this
theorem low30 (n : Nat) (h : n < 18446744073709551616) : bits .and .u64 (n : Int) 1073741823 = ((n % 1073741824 : Nat) : Int) := by
  have := u64_low 30 n (by decide) h
  simpa using this
theorem low33 (n : Nat) (h : n < 18446744073709551616) : bits .and .u64 (n : Int) 8589934591 = ((n % 8589934592 : Nat) : Int) := by
  have := u64_low 33 n (by decide) h
  simpa using this
theorem low6 (n : Nat) (h : n < 18446744073709551616) : bits .and .u64 (n : Int) 63 = ((n % 64 : Nat) : Int) := by
  have := u64_low 6 n (by decide) h
  simpa using this
theorem i64and3 (n : Int) : bits .and .i64 n 3 = n % 4 := by simpa using i64_mask 2 (by decide) n
end Go.Proofs.YtkkodhjolgcokaaDoor
/-
  AlarmStops: a timer that is stopped isn't told; one that is set anew is told once; one that was let go, and made again, is Idle.
-/
namespace Go.Proofs.YtkkodhjolgcokaaDoor
open Go.RowKit Go.Lib
set_option maxRecDepth 100000
set_option linter.unusedVariables false
set_option maxRecDepth 100000 in
set_option maxHeartbeats 32000000 in
theorem stops_walk8 (n0 a0 b0 : Nat) (how : Int) (w : World) (hT : TabAt w) (hn0 : n0 < 18446744073709551616) (ha0 : a0 < 18446744073709551616) (hb0 : b0 < 18446744073709551616) :
    Calls Tryd.prog 5 #[.int .u64 (n0 : Nat), .int .u64 (a0 : Nat), .int .u64 (b0 : Nat), .int .i64 how] w fun e w' => e = .returned (.bool true) ∧ w.grownBy w' none := by
  have C0 := Lib.hid (alive8 w hT)
  have mn := low40 n0 hn0
  have ma := low40 a0 ha0
  have mb := low40 b0 hb0
  have mh := i64and3 how
  have bN : n0 % 1099511627776 < 1099511627776 := Nat.mod_lt _ (by decide)
  have bA : a0 % 1099511627776 < 1099511627776 := Nat.mod_lt _ (by decide)
  have bB : b0 % 1099511627776 < 1099511627776 := Nat.mod_lt _ (by decide)
  generalize n0 % 1099511627776 = N at *
  generalize a0 % 1099511627776 = A at *
  generalize b0 % 1099511627776 = B at *
  have hq : how % 4 = 0 ∨ how % 4 = 1 ∨ how % 4 = 2 ∨ how % 4 = 3 := by omega
  generalize how % 4 = q at *
  have ewA : IntKind.u64.wrap ((N : Int) + (A : Int)) = (N : Int) + (A : Int) := by rw [IntKind.wrap_u64]; omega
  have ewB : IntKind.u64.wrap ((N : Int) + (B : Int)) = (N : Int) + (B : Int) := by rw [IntKind.wrap_u64]; omega
  have TT := Lib.hid hT
  clear hn0 ha0 hb0 hT
  go_enter Tryd.func5, Tryd.ntmps5
  go_wp2_with fail
  refine C0.out.mono ?_
  rintro e u0 ⟨rfl, k⟩
  have G := Lib.hid k
  clear k C0
  have C : Hid (Calls Tryd.prog 8 #[.int .i64 2, .int .u64 (N : Nat)] u0 fun e w' => ∃ bb, e = .returned (.pointer (some ⟨bb, 0, none⟩)) ∧ u0.grownBy w' none ∧ Bo w' u0.heap.size w'.heap.size bb 2 N 0 (two Ti.none Ti.none)) := Lib.hid (by
    have h := book_made 2 N u0 (by decide) (by omega)
    rw [two_none] at h
    exact h)
  go_wp2_with fail
  refine C.out.mono ?_
  rintro e u1 ⟨bb, rfl, k, h⟩
  have hlo : w.heap.size ≤ u0.heap.size := G.out.size
  have hl0 : Hid (0 < u0.heap.size) := Lib.hid (by have := tab_pos TT.out; omega)
  replace G := Lib.hid (G.out.trans k)
  have T := Lib.hid (TT.out.kept G.out)
  obtain ⟨hi, hhi⟩ : ∃ h, h = u1.heap.size := ⟨_, rfl⟩
  rw [← hhi] at h
  have H := Lib.hid h
  generalize u0.heap.size = lo at *
  clear k h C hhi TT
  have C : Hid (Calls Tryd.prog 9 #[.pointer (some ⟨bb, 0, none⟩)] u1 fun e w' => e = .returned (.tuple #[.int .i64 0, .bool true]) ∧ Only lo hi u1 w' ∧ Bo w' lo hi bb 2 N 0 (two Ti.idle Ti.none)) := Lib.hid (by
    have h := bo_make_some 0 H.out T.out (by decide) rfl (fun q h => absurd h (Nat.not_lt_zero q))
    rw [two_up0] at h
    exact h)
  go_wp2_with fail
  refine C.out.mono ?_
  rintro e u2 ⟨rfl, k, h⟩
  replace H := Lib.hid h
  replace G := Lib.hid (Only.on G.out k hlo)
  replace T := Lib.hid (tab_only T.out k hl0.out)
  clear k h C
  have C : Hid (Calls Tryd.prog 9 #[.pointer (some ⟨bb, 0, none⟩)] u2 fun e w' => e = .returned (.tuple #[.int .i64 1, .bool true]) ∧ Only lo hi u2 w' ∧ Bo w' lo hi bb 2 N 0 (two Ti.idle Ti.idle)) := Lib.hid (by
    have h := bo_make_some 1 H.out T.out (by decide) rfl (fun q h => by
      obtain rfl : q = 0 := by omega
      rfl)
    rw [two_up1] at h
    exact h)
  go_wp2_with fail
  refine C.out.mono ?_
  rintro e u3 ⟨rfl, k, h⟩
  replace H := Lib.hid h
  replace G := Lib.hid (Only.on G.out k hlo)
  replace T := Lib.hid (tab_only T.out k hl0.out)
  clear k h C
  have C : Hid (Calls Tryd.prog 10 #[.pointer (some ⟨bb, 0, none⟩), .int .i64 0, .int .u64 1, .int .u64 ((N : Int) + (A : Int)), .int .u64 0] u3 fun e w' => e = .returned (.bool true) ∧ Only lo hi u3 w' ∧ Bo w' lo hi bb 2 N 1 (two ⟨true, 1, 1, N + A, 0, 0⟩ Ti.idle)) := Lib.hid (by
    have h := bo_arm_in 0 1 (N + A) 0 H.out rfl (by decide) (by omega) (by decide) (by decide)
    rw [two_up0, Int.natCast_add] at h
    exact h)
  go_wp2_with fail
  refine C.out.mono ?_
  rintro e u4 ⟨rfl, k, h⟩
  replace H := Lib.hid h
  replace G := Lib.hid (Only.on G.out k hlo)
  replace T := Lib.hid (tab_only T.out k hl0.out)
  clear k h C
  have C : Hid (Calls Tryd.prog 10 #[.pointer (some ⟨bb, 0, none⟩), .int .i64 1, .int .u64 2, .int .u64 ((N : Int) + (A : Int)), .int .u64 0] u4 fun e w' => e = .returned (.bool true) ∧ Only lo hi u4 w' ∧ Bo w' lo hi bb 2 N 2 (two ⟨true, 1, 1, N + A, 0, 0⟩ ⟨true, 1, 2, N + A, 0, 1⟩)) := Lib.hid (by
    have h := bo_arm_in 1 2 (N + A) 0 H.out rfl (by decide) (by omega) (by decide) (by decide)
    rw [two_up1, Int.natCast_add] at h
    exact h)
  go_wp2_with fail
  refine C.out.mono ?_
  rintro e u5 ⟨rfl, k, h⟩
  replace H := Lib.hid h
  replace G := Lib.hid (Only.on G.out k hlo)
  replace T := Lib.hid (tab_only T.out k hl0.out)
  clear k h C
  rcases hq with hq | hq | hq | hq
  · subst hq
    have C : Hid (Calls Tryd.prog 16 #[.pointer (some ⟨bb, 0, none⟩), .int .i64 0] u5 fun e w' => e = .returned (.bool true) ∧ Only lo hi u5 w' ∧ Bo w' lo hi bb 2 N 2 (two Ti.idle ⟨true, 1, 2, N + A, 0, 1⟩)) := Lib.hid (by
      have h := bo_stop_in 0 H.out (by show (1 : Nat) ≠ 0; decide)
      rw [two_up0] at h
      exact h)
    go_wp2_with fail
    refine C.out.mono ?_
    rintro e u6 ⟨rfl, k, h⟩
    replace H := Lib.hid h
    replace G := Lib.hid (Only.on G.out k hlo)
    clear k h C
    have C : Hid (Calls Tryd.prog 16 #[.pointer (some ⟨bb, 0, none⟩), .int .i64 0] u6 fun e w' => e = .returned (.bool false) ∧ Only lo hi u6 w' ∧ Bo w' lo hi bb 2 N 2 (two Ti.idle ⟨true, 1, 2, N + A, 0, 1⟩)) := Lib.hid (by
      exact bo_stop_no 0 H.out rfl)
    go_wp2_with fail
    refine C.out.mono ?_
    rintro e u7 ⟨rfl, k, h⟩
    replace H := Lib.hid h
    replace G := Lib.hid (Only.on G.out k hlo)
    clear k h C
    have C : Hid (Calls Tryd.prog 11 #[.pointer (some ⟨bb, 0, none⟩), .int .u64 ((N : Int) + (A : Int))] u7 fun e w' => ∃ r cp, e = .returned (.slice (some ⟨r, 0, none⟩) 1 cp) ∧ Only lo hi u7 w' ∧ Bo w' lo hi bb 2 (max N (N + A)) 2 (two Ti.idle ⟨true, 2, 2, N + A, 0, 1⟩)) := Lib.hid (by
      have h := bo_to2 (N + A) H.out (by omega)
      have t0 : ¬ Ti.told Ti.idle (max N (N + A)) := fun h => absurd h.1 (by decide)
      have t1 : Ti.told ⟨true, 1, 2, N + A, 0, 1⟩ (max N (N + A)) := ⟨rfl, by show N + A ≤ _; omega⟩
      rw [if_neg t0, if_neg t0, if_pos t1, if_pos t1, Int.natCast_add] at h
      refine h.mono ?_
      rintro e w' ⟨R, r, cp, he, hr, hk, hb, hx⟩
      exact ⟨r, cp, he, hk, hb⟩)
    go_wp2_with fail
    refine C.out.mono ?_
    rintro e u8 ⟨r, cp, rfl, k, h⟩
    replace H := Lib.hid h
    replace G := Lib.hid (Only.on G.out k hlo)
    clear k h C
    have C : Hid (Calls Tryd.prog 12 #[.pointer (some ⟨bb, 0, none⟩), .int .i64 0] u8 fun e w' => e = .returned (.tuple #[.agg #[.int .i64 0, .int .u64 0, .int .u64 0, .int .u64 0], .bool true]) ∧ u8.grownBy w' none) := Lib.hid (by
      have h := bo_look_in 0 H.out
      rw [two_0] at h
      exact h)
    go_wp2_with fail
    refine C.out.mono ?_
    rintro e u9 ⟨rfl, k⟩
    have HZ : Hid (hi ≤ u9.heap.size) := Lib.hid (Nat.le_trans H.out.sz k.size)
    replace k := k.trans (World.grownBy_alloc u9 (.cells #[.int .i64 0, .int .u64 0, .int .u64 0, .int .u64 0] 33) none)
    replace H := Lib.hid (H.out.grown k)
    replace G := Lib.hid (G.out.trans k)
    clear k C
    have x0 : (u9.alloc (.cells #[.int .i64 0, .int .u64 0, .int .u64 0, .int .u64 0] 33)).cell? ⟨u9.heap.size, 0, none⟩ = some (.int .i64 0) := World.cell?_alloc_new ..
    have x1 : (u9.alloc (.cells #[.int .i64 0, .int .u64 0, .int .u64 0, .int .u64 0] 33)).cell? ⟨u9.heap.size, 1, none⟩ = some (.int .u64 0) := World.cell?_alloc_new ..
    have x2 : (u9.alloc (.cells #[.int .i64 0, .int .u64 0, .int .u64 0, .int .u64 0] 33)).cell? ⟨u9.heap.size, 2, none⟩ = some (.int .u64 0) := World.cell?_alloc_new ..
    have x3 : (u9.alloc (.cells #[.int .i64 0, .int .u64 0, .int .u64 0, .int .u64 0] 33)).cell? ⟨u9.heap.size, 3, none⟩ = some (.int .u64 0) := World.cell?_alloc_new ..
    have C : Hid (Calls Tryd.prog 13 #[.pointer (some ⟨bb, 0, none⟩), .int .i64 1, .int .u64 ((N : Int) + (A : Int))] (u9.alloc (.cells #[.int .i64 0, .int .u64 0, .int .u64 0, .int .u64 0] 33)) fun e w' => e = .returned (.int .u64 1) ∧ Only lo hi (u9.alloc (.cells #[.int .i64 0, .int .u64 0, .int .u64 0, .int .u64 0] 33)) w') := Lib.hid (by
      have h := bo_sent_in 1 (N + A) H.out (by omega) (by decide)
      rw [two_1, (sent_one ⟨true, 2, 2, N + A, 0, 1⟩ (N + A) 2 rfl (Or.inl rfl)).1, Int.natCast_add] at h
      exact h.mono fun e w' h => ⟨h.1, h.2.1⟩)
    go_wp2_with fail
    refine C.out.mono ?_
    rintro e u10 ⟨rfl, k⟩
    replace G := Lib.hid (Only.on G.out k hlo)
    replace x0 := (k.cell' u9.heap.size 0 (by simp) (Or.inr HZ.out)).trans x0
    replace x1 := (k.cell' u9.heap.size 1 (by simp) (Or.inr HZ.out)).trans x1
    replace x2 := (k.cell' u9.heap.size 2 (by simp) (Or.inr HZ.out)).trans x2
    replace x3 := (k.cell' u9.heap.size 3 (by simp) (Or.inr HZ.out)).trans x3
    clear k C H HZ
    generalize u9.heap.size = xb at *
    go_wp2
    go_ret
    exact ⟨rfl, G.out⟩
  · subst hq
    have C : Hid (Calls Tryd.prog 10 #[.pointer (some ⟨bb, 0, none⟩), .int .i64 0, .int .u64 3, .int .u64 ((N : Int) + (B : Int)), .int .u64 0] u5 fun e w' => e = .returned (.bool true) ∧ Only lo hi u5 w' ∧ Bo w' lo hi bb 2 N 3 (two ⟨true, 1, 3, N + B, 0, 2⟩ ⟨true, 1, 2, N + A, 0, 1⟩)) := Lib.hid (by
      have h := bo_arm_in 0 3 (N + B) 0 H.out rfl (by decide) (by omega) (by decide) (by decide)
      rw [two_up0, Int.natCast_add] at h
      exact h)
    go_wp2_with fail
    refine C.out.mono ?_
    rintro e u6 ⟨rfl, k, h⟩
    replace H := Lib.hid h
    replace G := Lib.hid (Only.on G.out k hlo)
    clear k h C
    by_cases hBA : B ≤ A
    · have qBA : (B : Int) ≤ (A : Int) := by omega
      have C : Hid (Calls Tryd.prog 11 #[.pointer (some ⟨bb, 0, none⟩), .int .u64 ((N : Int) + (A : Int))] u6 fun e w' => ∃ r cp, e = .returned (.slice (some ⟨r, 0, none⟩) 2 cp) ∧ Only lo hi u6 w' ∧ Bo w' lo hi bb 2 (max N (N + A)) 3 (two ⟨true, 2, 3, N + B, 0, 2⟩ ⟨true, 2, 2, N + A, 0, 1⟩)) := Lib.hid (by
        have h := bo_to2 (N + A) H.out (by omega)
        have t0 : Ti.told ⟨true, 1, 3, N + B, 0, 2⟩ (max N (N + A)) := ⟨rfl, by show N + B ≤ _; omega⟩
        have t1 : Ti.told ⟨true, 1, 2, N + A, 0, 1⟩ (max N (N + A)) := ⟨rfl, by show N + A ≤ _; omega⟩
        rw [if_pos t0, if_pos t0, if_pos t1, if_pos t1, Int.natCast_add] at h
        refine h.mono ?_
        rintro e w' ⟨R, r, cp, he, hr, hk, hb, hx⟩
        exact ⟨r, cp, he, hk, hb⟩)
      go_wp2_with fail
      refine C.out.mono ?_
      rintro e u7 ⟨r, cp, rfl, k, h⟩
      replace H := Lib.hid h
      replace G := Lib.hid (Only.on G.out k hlo)
      clear k h C
      have C : Hid (Calls Tryd.prog 12 #[.pointer (some ⟨bb, 0, none⟩), .int .i64 0] u7 fun e w' => e = .returned (.tuple #[.agg #[.int .i64 2, .int .u64 3, .int .u64 ((N : Int) + (B : Int)), .int .u64 0], .bool true]) ∧ u7.grownBy w' none) := Lib.hid (by
        have h := bo_look_in 0 H.out
        rw [two_0] at h
        exact h)
      go_wp2_with fail
      refine C.out.mono ?_
      rintro e u8 ⟨rfl, k⟩
      have HZ : Hid (hi ≤ u8.heap.size) := Lib.hid (Nat.le_trans H.out.sz k.size)
      replace k := k.trans (World.grownBy_alloc u8 (.cells #[.int .i64 2, .int .u64 3, .int .u64 ((N : Int) + (B : Int)), .int .u64 0] 33) none)
      replace H := Lib.hid (H.out.grown k)
      replace G := Lib.hid (G.out.trans k)
      clear k C
      have x0 : (u8.alloc (.cells #[.int .i64 2, .int .u64 3, .int .u64 ((N : Int) + (B : Int)), .int .u64 0] 33)).cell? ⟨u8.heap.size, 0, none⟩ = some (.int .i64 2) := World.cell?_alloc_new ..
      have x1 : (u8.alloc (.cells #[.int .i64 2, .int .u64 3, .int .u64 ((N : Int) + (B : Int)), .int .u64 0] 33)).cell? ⟨u8.heap.size, 1, none⟩ = some (.int .u64 3) := World.cell?_alloc_new ..
      have x2 : (u8.alloc (.cells #[.int .i64 2, .int .u64 3, .int .u64 ((N : Int) + (B : Int)), .int .u64 0] 33)).cell? ⟨u8.heap.size, 2, none⟩ = some (.int .u64 ((N : Int) + (B : Int))) := World.cell?_alloc_new ..
      have x3 : (u8.alloc (.cells #[.int .i64 2, .int .u64 3, .int .u64 ((N : Int) + (B : Int)), .int .u64 0] 33)).cell? ⟨u8.heap.size, 3, none⟩ = some (.int .u64 0) := World.cell?_alloc_new ..
      have C : Hid (Calls Tryd.prog 13 #[.pointer (some ⟨bb, 0, none⟩), .int .i64 1, .int .u64 ((N : Int) + (A : Int))] (u8.alloc (.cells #[.int .i64 2, .int .u64 3, .int .u64 ((N : Int) + (B : Int)), .int .u64 0] 33)) fun e w' => e = .returned (.int .u64 1) ∧ Only lo hi (u8.alloc (.cells #[.int .i64 2, .int .u64 3, .int .u64 ((N : Int) + (B : Int)), .int .u64 0] 33)) w') := Lib.hid (by
        have h := bo_sent_in 1 (N + A) H.out (by omega) (by decide)
        rw [two_1, (sent_one ⟨true, 2, 2, N + A, 0, 1⟩ (N + A) 3 rfl (Or.inl rfl)).1, Int.natCast_add] at h
        exact h.mono fun e w' h => ⟨h.1, h.2.1⟩)
      go_wp2_with fail
      refine C.out.mono ?_
      rintro e u9 ⟨rfl, k⟩
      replace G := Lib.hid (Only.on G.out k hlo)
      replace x0 := (k.cell' u8.heap.size 0 (by simp) (Or.inr HZ.out)).trans x0
      replace x1 := (k.cell' u8.heap.size 1 (by simp) (Or.inr HZ.out)).trans x1
      replace x2 := (k.cell' u8.heap.size 2 (by simp) (Or.inr HZ.out)).trans x2
      replace x3 := (k.cell' u8.heap.size 3 (by simp) (Or.inr HZ.out)).trans x3
      clear k C H HZ
      generalize u8.heap.size = xb at *
      go_wp2
      go_ret
      exact ⟨rfl, G.out⟩
    · have qBA : ¬ (B : Int) ≤ (A : Int) := by omega
      have C : Hid (Calls Tryd.prog 11 #[.pointer (some ⟨bb, 0, none⟩), .int .u64 ((N : Int) + (A : Int))] u6 fun e w' => ∃ r cp, e = .returned (.slice (some ⟨r, 0, none⟩) 1 cp) ∧ Only lo hi u6 w' ∧ Bo w' lo hi bb 2 (max N (N + A)) 3 (two ⟨true, 1, 3, N + B, 0, 2⟩ ⟨true, 2, 2, N + A, 0, 1⟩)) := Lib.hid (by
        have h := bo_to2 (N + A) H.out (by omega)
        have t0 : ¬ Ti.told ⟨true, 1, 3, N + B, 0, 2⟩ (max N (N + A)) := fun h => by
          have h2 : N + B ≤ max N (N + A) := h.2
          omega
        have t1 : Ti.told ⟨true, 1, 2, N + A, 0, 1⟩ (max N (N + A)) := ⟨rfl, by show N + A ≤ _; omega⟩
        rw [if_neg t0, if_neg t0, if_pos t1, if_pos t1, Int.natCast_add] at h
        refine h.mono ?_
        rintro e w' ⟨R, r, cp, he, hr, hk, hb, hx⟩
        exact ⟨r, cp, he, hk, hb⟩)
      go_wp2_with fail
      refine C.out.mono ?_
      rintro e u7 ⟨r, cp, rfl, k, h⟩
      replace H := Lib.hid h
      replace G := Lib.hid (Only.on G.out k hlo)
      clear k h C
      have C : Hid (Calls Tryd.prog 12 #[.pointer (some ⟨bb, 0, none⟩), .int .i64 0] u7 fun e w' => e = .returned (.tuple #[.agg #[.int .i64 1, .int .u64 3, .int .u64 ((N : Int) + (B : Int)), .int .u64 0], .bool true]) ∧ u7.grownBy w' none) := Lib.hid (by
        have h := bo_look_in 0 H.out
        rw [two_0] at h
        exact h)
      go_wp2_with fail
      refine C.out.mono ?_
      rintro e u8 ⟨rfl, k⟩
      have HZ : Hid (hi ≤ u8.heap.size) := Lib.hid (Nat.le_trans H.out.sz k.size)
      replace k := k.trans (World.grownBy_alloc u8 (.cells #[.int .i64 1, .int .u64 3, .int .u64 ((N : Int) + (B : Int)), .int .u64 0] 33) none)
      replace H := Lib.hid (H.out.grown k)
      replace G := Lib.hid (G.out.trans k)
      clear k C
      have x0 : (u8.alloc (.cells #[.int .i64 1, .int .u64 3, .int .u64 ((N : Int) + (B : Int)), .int .u64 0] 33)).cell? ⟨u8.heap.size, 0, none⟩ = some (.int .i64 1) := World.cell?_alloc_new ..
      have x1 : (u8.alloc (.cells #[.int .i64 1, .int .u64 3, .int .u64 ((N : Int) + (B : Int)), .int .u64 0] 33)).cell? ⟨u8.heap.size, 1, none⟩ = some (.int .u64 3) := World.cell?_alloc_new ..
      have x2 : (u8.alloc (.cells #[.int .i64 1, .int .u64 3, .int .u64 ((N : Int) + (B : Int)), .int .u64 0] 33)).cell? ⟨u8.heap.size, 2, none⟩ = some (.int .u64 ((N : Int) + (B : Int))) := World.cell?_alloc_new ..
      have x3 : (u8.alloc (.cells #[.int .i64 1, .int .u64 3, .int .u64 ((N : Int) + (B : Int)), .int .u64 0] 33)).cell? ⟨u8.heap.size, 3, none⟩ = some (.int .u64 0) := World.cell?_alloc_new ..
      have C : Hid (Calls Tryd.prog 13 #[.pointer (some ⟨bb, 0, none⟩), .int .i64 1, .int .u64 ((N : Int) + (A : Int))] (u8.alloc (.cells #[.int .i64 1, .int .u64 3, .int .u64 ((N : Int) + (B : Int)), .int .u64 0] 33)) fun e w' => e = .returned (.int .u64 1) ∧ Only lo hi (u8.alloc (.cells #[.int .i64 1, .int .u64 3, .int .u64 ((N : Int) + (B : Int)), .int .u64 0] 33)) w') := Lib.hid (by
        have h := bo_sent_in 1 (N + A) H.out (by omega) (by decide)
        rw [two_1, (sent_one ⟨true, 2, 2, N + A, 0, 1⟩ (N + A) 3 rfl (Or.inl rfl)).1, Int.natCast_add] at h
        exact h.mono fun e w' h => ⟨h.1, h.2.1⟩)
      go_wp2_with fail
      refine C.out.mono ?_
      rintro e u9 ⟨rfl, k⟩
      replace G := Lib.hid (Only.on G.out k hlo)
      replace x0 := (k.cell' u8.heap.size 0 (by simp) (Or.inr HZ.out)).trans x0
      replace x1 := (k.cell' u8.heap.size 1 (by simp) (Or.inr HZ.out)).trans x1
      replace x2 := (k.cell' u8.heap.size 2 (by simp) (Or.inr HZ.out)).trans x2
      replace x3 := (k.cell' u8.heap.size 3 (by simp) (Or.inr HZ.out)).trans x3
      clear k C H HZ
      generalize u8.heap.size = xb at *
      go_wp2
      go_ret
      exact ⟨rfl, G.out⟩
  · subst hq
    have C : Hid (Calls Tryd.prog 17 #[.pointer (some ⟨bb, 0, none⟩), .int .i64 0] u5 fun e w' => e = .returned (.bool true) ∧ Only lo hi u5 w' ∧ Bo w' lo hi bb 2 N 2 (two Ti.none ⟨true, 1, 2, N + A, 0, 1⟩)) := Lib.hid (by
      have h := bo_free_in 0 H.out
      rw [two_up0] at h
      exact h)
    go_wp2_with fail
    refine C.out.mono ?_
    rintro e u6 ⟨rfl, k, h⟩
    replace H := Lib.hid h
    replace G := Lib.hid (Only.on G.out k hlo)
    replace T := Lib.hid (tab_only T.out k hl0.out)
    clear k h C
    have C : Hid (Calls Tryd.prog 9 #[.pointer (some ⟨bb, 0, none⟩)] u6 fun e w' => e = .returned (.tuple #[.int .i64 0, .bool true]) ∧ Only lo hi u6 w' ∧ Bo w' lo hi bb 2 N 2 (two Ti.idle ⟨true, 1, 2, N + A, 0, 1⟩)) := Lib.hid (by
      have h := bo_make_some 0 H.out T.out (by decide) rfl (fun q h => absurd h (Nat.not_lt_zero q))
      rw [two_up0] at h
      exact h)
    go_wp2_with fail
    refine C.out.mono ?_
    rintro e u7 ⟨rfl, k, h⟩
    replace H := Lib.hid h
    replace G := Lib.hid (Only.on G.out k hlo)
    clear k h C
    have C : Hid (Calls Tryd.prog 11 #[.pointer (some ⟨bb, 0, none⟩), .int .u64 ((N : Int) + (A : Int))] u7 fun e w' => ∃ r cp, e = .returned (.slice (some ⟨r, 0, none⟩) 1 cp) ∧ Only lo hi u7 w' ∧ Bo w' lo hi bb 2 (max N (N + A)) 2 (two Ti.idle ⟨true, 2, 2, N + A, 0, 1⟩)) := Lib.hid (by
      have h := bo_to2 (N + A) H.out (by omega)
      have t0 : ¬ Ti.told Ti.idle (max N (N + A)) := fun h => absurd h.1 (by decide)
      have t1 : Ti.told ⟨true, 1, 2, N + A, 0, 1⟩ (max N (N + A)) := ⟨rfl, by show N + A ≤ _; omega⟩
      rw [if_neg t0, if_neg t0, if_pos t1, if_pos t1, Int.natCast_add] at h
      refine h.mono ?_
      rintro e w' ⟨R, r, cp, he, hr, hk, hb, hx⟩
      exact ⟨r, cp, he, hk, hb⟩)
    go_wp2_with fail
    refine C.out.mono ?_
    rintro e u8 ⟨r, cp, rfl, k, h⟩
    replace H := Lib.hid h
    replace G := Lib.hid (Only.on G.out k hlo)
    clear k h C
    have C : Hid (Calls Tryd.prog 12 #[.pointer (some ⟨bb, 0, none⟩), .int .i64 0] u8 fun e w' => e = .returned (.tuple #[.agg #[.int .i64 0, .int .u64 0, .int .u64 0, .int .u64 0], .bool true]) ∧ u8.grownBy w' none) := Lib.hid (by
      have h := bo_look_in 0 H.out
      rw [two_0] at h
      exact h)
    go_wp2_with fail
    refine C.out.mono ?_
    rintro e u9 ⟨rfl, k⟩
    have HZ : Hid (hi ≤ u9.heap.size) := Lib.hid (Nat.le_trans H.out.sz k.size)
    replace k := k.trans (World.grownBy_alloc u9 (.cells #[.int .i64 0, .int .u64 0, .int .u64 0, .int .u64 0] 33) none)
    replace H := Lib.hid (H.out.grown k)
    replace G := Lib.hid (G.out.trans k)
    clear k C
    have x0 : (u9.alloc (.cells #[.int .i64 0, .int .u64 0, .int .u64 0, .int .u64 0] 33)).cell? ⟨u9.heap.size, 0, none⟩ = some (.int .i64 0) := World.cell?_alloc_new ..
    have x1 : (u9.alloc (.cells #[.int .i64 0, .int .u64 0, .int .u64 0, .int .u64 0] 33)).cell? ⟨u9.heap.size, 1, none⟩ = some (.int .u64 0) := World.cell?_alloc_new ..
    have x2 : (u9.alloc (.cells #[.int .i64 0, .int .u64 0, .int .u64 0, .int .u64 0] 33)).cell? ⟨u9.heap.size, 2, none⟩ = some (.int .u64 0) := World.cell?_alloc_new ..
    have x3 : (u9.alloc (.cells #[.int .i64 0, .int .u64 0, .int .u64 0, .int .u64 0] 33)).cell? ⟨u9.heap.size, 3, none⟩ = some (.int .u64 0) := World.cell?_alloc_new ..
    have C : Hid (Calls Tryd.prog 13 #[.pointer (some ⟨bb, 0, none⟩), .int .i64 1, .int .u64 ((N : Int) + (A : Int))] (u9.alloc (.cells #[.int .i64 0, .int .u64 0, .int .u64 0, .int .u64 0] 33)) fun e w' => e = .returned (.int .u64 1) ∧ Only lo hi (u9.alloc (.cells #[.int .i64 0, .int .u64 0, .int .u64 0, .int .u64 0] 33)) w') := Lib.hid (by
      have h := bo_sent_in 1 (N + A) H.out (by omega) (by decide)
      rw [two_1, (sent_one ⟨true, 2, 2, N + A, 0, 1⟩ (N + A) 2 rfl (Or.inl rfl)).1, Int.natCast_add] at h
      exact h.mono fun e w' h => ⟨h.1, h.2.1⟩)
    go_wp2_with fail
    refine C.out.mono ?_
    rintro e u10 ⟨rfl, k⟩
    replace G := Lib.hid (Only.on G.out k hlo)
    replace x0 := (k.cell' u9.heap.size 0 (by simp) (Or.inr HZ.out)).trans x0
    replace x1 := (k.cell' u9.heap.size 1 (by simp) (Or.inr HZ.out)).trans x1
    replace x2 := (k.cell' u9.heap.size 2 (by simp) (Or.inr HZ.out)).trans x2
    replace x3 := (k.cell' u9.heap.size 3 (by simp) (Or.inr HZ.out)).trans x3
    clear k C H HZ
    generalize u9.heap.size = xb at *
    go_wp2
    go_ret
    exact ⟨rfl, G.out⟩
  · subst hq
    have C : Hid (Calls Tryd.prog 11 #[.pointer (some ⟨bb, 0, none⟩), .int .u64 ((N : Int) + (A : Int))] u5 fun e w' => ∃ r cp, e = .returned (.slice (some ⟨r, 0, none⟩) 2 cp) ∧ Only lo hi u5 w' ∧ Bo w' lo hi bb 2 (max N (N + A)) 2 (two ⟨true, 2, 1, N + A, 0, 0⟩ ⟨true, 2, 2, N + A, 0, 1⟩)) := Lib.hid (by
      have h := bo_to2 (N + A) H.out (by omega)
      have t0 : Ti.told ⟨true, 1, 1, N + A, 0, 0⟩ (max N (N + A)) := ⟨rfl, by show N + A ≤ _; omega⟩
      have t1 : Ti.told ⟨true, 1, 2, N + A, 0, 1⟩ (max N (N + A)) := ⟨rfl, by show N + A ≤ _; omega⟩
      rw [if_pos t0, if_pos t0, if_pos t1, if_pos t1, Int.natCast_add] at h
      refine h.mono ?_
      rintro e w' ⟨R, r, cp, he, hr, hk, hb, hx⟩
      exact ⟨r, cp, he, hk, hb⟩)
    go_wp2_with fail
    refine C.out.mono ?_
    rintro e u6 ⟨r, cp, rfl, k, h⟩
    replace H := Lib.hid h
    replace G := Lib.hid (Only.on G.out k hlo)
    clear k h C
    have C : Hid (Calls Tryd.prog 12 #[.pointer (some ⟨bb, 0, none⟩), .int .i64 0] u6 fun e w' => e = .returned (.tuple #[.agg #[.int .i64 2, .int .u64 1, .int .u64 ((N : Int) + (A : Int)), .int .u64 0], .bool true]) ∧ u6.grownBy w' none) := Lib.hid (by
      have h := bo_look_in 0 H.out
      rw [two_0] at h
      exact h)
    go_wp2_with fail
    refine C.out.mono ?_
    rintro e u7 ⟨rfl, k⟩
    have HZ : Hid (hi ≤ u7.heap.size) := Lib.hid (Nat.le_trans H.out.sz k.size)
    replace k := k.trans (World.grownBy_alloc u7 (.cells #[.int .i64 2, .int .u64 1, .int .u64 ((N : Int) + (A : Int)), .int .u64 0] 33) none)
    replace H := Lib.hid (H.out.grown k)
    replace G := Lib.hid (G.out.trans k)
    clear k C
    have x0 : (u7.alloc (.cells #[.int .i64 2, .int .u64 1, .int .u64 ((N : Int) + (A : Int)), .int .u64 0] 33)).cell? ⟨u7.heap.size, 0, none⟩ = some (.int .i64 2) := World.cell?_alloc_new ..
    have x1 : (u7.alloc (.cells #[.int .i64 2, .int .u64 1, .int .u64 ((N : Int) + (A : Int)), .int .u64 0] 33)).cell? ⟨u7.heap.size, 1, none⟩ = some (.int .u64 1) := World.cell?_alloc_new ..
    have x2 : (u7.alloc (.cells #[.int .i64 2, .int .u64 1, .int .u64 ((N : Int) + (A : Int)), .int .u64 0] 33)).cell? ⟨u7.heap.size, 2, none⟩ = some (.int .u64 ((N : Int) + (A : Int))) := World.cell?_alloc_new ..
    have x3 : (u7.alloc (.cells #[.int .i64 2, .int .u64 1, .int .u64 ((N : Int) + (A : Int)), .int .u64 0] 33)).cell? ⟨u7.heap.size, 3, none⟩ = some (.int .u64 0) := World.cell?_alloc_new ..
    have C : Hid (Calls Tryd.prog 13 #[.pointer (some ⟨bb, 0, none⟩), .int .i64 1, .int .u64 ((N : Int) + (A : Int))] (u7.alloc (.cells #[.int .i64 2, .int .u64 1, .int .u64 ((N : Int) + (A : Int)), .int .u64 0] 33)) fun e w' => e = .returned (.int .u64 1) ∧ Only lo hi (u7.alloc (.cells #[.int .i64 2, .int .u64 1, .int .u64 ((N : Int) + (A : Int)), .int .u64 0] 33)) w') := Lib.hid (by
      have h := bo_sent_in 1 (N + A) H.out (by omega) (by decide)
      rw [two_1, (sent_one ⟨true, 2, 2, N + A, 0, 1⟩ (N + A) 2 rfl (Or.inl rfl)).1, Int.natCast_add] at h
      exact h.mono fun e w' h => ⟨h.1, h.2.1⟩)
    go_wp2_with fail
    refine C.out.mono ?_
    rintro e u8 ⟨rfl, k⟩
    replace G := Lib.hid (Only.on G.out k hlo)
    replace x0 := (k.cell' u7.heap.size 0 (by simp) (Or.inr HZ.out)).trans x0
    replace x1 := (k.cell' u7.heap.size 1 (by simp) (Or.inr HZ.out)).trans x1
    replace x2 := (k.cell' u7.heap.size 2 (by simp) (Or.inr HZ.out)).trans x2
    replace x3 := (k.cell' u7.heap.size 3 (by simp) (Or.inr HZ.out)).trans x3
    clear k C H HZ
    generalize u7.heap.size = xb at *
    go_wp2
    go_ret
    exact ⟨rfl, G.out⟩
end Go.Proofs.YtkkodhjolgcokaaDoor
