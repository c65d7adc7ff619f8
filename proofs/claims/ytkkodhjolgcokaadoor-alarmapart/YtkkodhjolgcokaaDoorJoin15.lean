/-
  Texts of one claim, joined, one behind the other.
-/
import Derived.Test.YtkkodhjolgcokaaDoorJoin14
import Derived.Test.YtkkodhjolgcokaaDoorJoin4
/-
  What 'book' of the laws of alarm makes; To of a book of two timers.
-/
namespace Go.Proofs.YtkkodhjolgcokaaDoor
open Go.RowKit Go.Lib
set_option maxRecDepth 100000

set_option maxRecDepth 100000 in
theorem book_made (room now : Nat) (w : World) (hr : room ≤ 256) (hnow : now < 18446744073709551616) : Calls Tryd.prog 8 #[.int .i64 room, .int .u64 (now : Nat)] w fun e w' => ∃ bb, e = .returned (.pointer (some ⟨bb, 0, none⟩)) ∧ w.grownBy w' none ∧ Bo w' w.heap.size w'.heap.size bb room now 0 (fun _ => Ti.none) := by
  have ka := World.grownBy_alloc w (.cells #[.int .i64 2, .int .i64 room] 3) none
  have CA := Lib.hid (SA.new_made _ 2 2 _ _ (caps_two w 2 room))
  have KA := Lib.hid ka
  clear ka
  go_enter Tryd.func8, Tryd.ntmps8
  go_wp2_with fail
  refine CA.out.mono ?_
  rintro e u0 ⟨sb, rb, rfl, q0, A0⟩
  have g0 := grow_to KA.out q0
  have hlo : w.heap.size ≤ (w.alloc (.cells #[.int .i64 2, .int .i64 room] 3)).heap.size := KA.out.size
  generalize (w.alloc (.cells #[.int .i64 2, .int .i64 room] 3)).heap.size = lo at A0 hlo
  clear CA q0
  have C1 : Hid (Calls Tryd.prog 19 #[.pointer (some ⟨sb, 0, none⟩), .int .i64 1] u0 fun e w' => e = .returned (.pointer (some ⟨rb, 2, none⟩)) ∧ u0.grownBy w' none) := Lib.hid (SA.region_in 1 A0 (by decide))
  go_wp2_with fail
  refine C1.out.mono ?_
  rintro e u1 ⟨rfl, q1⟩
  have A1 := A0.grown q1
  have g1 := grow_to g0 q1
  clear C1 A0 g0 q1
  have C1 : Hid (Calls Tryd.prog 20 #[.pointer (some ⟨rb, 2, none⟩), .int .u64 (now : Nat)] u1 fun e w' => ∃ bb, e = .returned (.pointer (some ⟨bb, 0, none⟩)) ∧ u1.grownBy w' none ∧ Bo w' lo w'.heap.size bb room now 0 (fun _ => Ti.none)) := Lib.hid (by
    have := bo_new 1 now hnow (by decide) A1
    have e1 : nOf (fun j => if j = 0 then 2 else (room : Int)) 1 = room := by simp [nOf, roomN]; omega
    rwa [e1] at this)
  go_wp2_with fail
  refine C1.out.mono ?_
  rintro e w0 ⟨tb, rfl, k0, H0⟩
  have G0 := grow_to g1 k0
  clear C1 A1 g1 k0
  go_wp2
  go_ret
  obtain ⟨rb, ro, pb, po, b, g, l, h, wb, H, r, s⟩ := H0
  exact ⟨tb, rfl, G0, rb, ro, pb, po, b, g, l, h, wb, H, by omega, s⟩

/-- Is a timer told at a time? -/
def Ti.told (x : Ti) (t : Nat) : Prop := x.st = 1 ∧ x.t ≤ t
instance (x : Ti) (t : Nat) : Decidable (x.told t) := inferInstanceAs (Decidable (_ ∧ _))
theorem len_two {R : List Nat} (hn : R.Nodup) (h : ∀ k, k ∈ R → k < 2) : R.length = (if 0 ∈ R then 1 else 0) + (if 1 ∈ R then 1 else 0) := by
  match R, hn, h with
  | [], _, _ => rfl
  | [x], _, h =>
    have h1 := h x (by simp)
    have : x = 0 ∨ x = 1 := by omega
    rcases this with rfl | rfl <;> rfl
  | [x, y], hn, h =>
    have h1 := h x (by simp)
    have h2 := h y (by simp)
    have h3 : x ≠ y := by simpa using hn
    have : (x = 0 ∧ y = 1) ∨ (x = 1 ∧ y = 0) := by omega
    rcases this with ⟨rfl, rfl⟩ | ⟨rfl, rfl⟩ <;> rfl
  | x :: y :: z :: l, hn, h =>
    have h1 := h x (by simp)
    have h2 := h y (by simp)
    have h3 := h z (by simp)
    simp at hn
    omega
theorem bo_to2 {w : World} {lo hi bb n now tu : Nat} {X Y : Ti} (tg : Nat) (H : Bo w lo hi bb n now tu (two X Y)) (htg : tg < 18446744073709551616) :
    Calls Tryd.prog 11 #[.pointer (some ⟨bb, 0, none⟩), .int .u64 (tg : Nat)] w fun e w' => ∃ (R : List Nat) (r cp : Nat), e = .returned (.slice (some ⟨r, 0, none⟩) ((if X.told (max now tg) then 1 else 0) + (if Y.told (max now tg) then 1 else 0) : Nat) cp) ∧ RowOf w' w.heap.size r cp R ∧ Only lo hi w w' ∧ Bo w' lo hi bb n (max now tg) tu (two (if X.told (max now tg) then X.due else X) (if Y.told (max now tg) then Y.due else Y)) ∧ R.Nodup ∧ (∀ k, k ∈ R ↔ (k = 0 ∧ X.told (max now tg)) ∨ (k = 1 ∧ Y.told (max now tg))) := by
  refine (bo_to tg H htg).mono ?_
  rintro e w' ⟨R, r, cp, he, hr, hk, hb, hn, hm, hs⟩
  have hl := two_lt X Y R _ hm
  have h0 : 0 ∈ R ↔ X.told (max now tg) := hm 0
  have h1 : 1 ∈ R ↔ Y.told (max now tg) := hm 1
  rw [two_due _ _ _ hl] at hb
  rw [len_two hn hl] at he
  simp only [h0, h1] at hb he
  refine ⟨R, r, cp, he, hr, hk, hb, hn, fun k => ⟨fun h => ?_, fun h => ?_⟩⟩
  · have hk2 := hl k h
    match k, hk2 with
    | 0, _ => exact Or.inl ⟨rfl, h0.1 h⟩
    | 1, _ => exact Or.inr ⟨rfl, h1.1 h⟩
  · rcases h with ⟨rfl, h⟩ | ⟨rfl, h⟩
    · exact h0.2 h
    · exact h1.2 h
theorem u64_low (i : Nat) (n : Nat) (hi : i ≤ 63) (h : n < 18446744073709551616) : bits .and .u64 (n : Int) ((2 ^ i - 1 : Nat) : Int) = ((n % 2 ^ i : Nat) : Int) := by
  have hp : 2 ^ i ≤ 2 ^ 63 := Nat.pow_le_pow_right (by decide) hi
  have hp0 : 0 < 2 ^ i := Nat.two_pow_pos i
  rw [bits_and_u64_nat n (2 ^ i - 1) h (by omega), Nat.and_two_pow_sub_one_eq_mod]
theorem low40 (n : Nat) (h : n < 18446744073709551616) : bits .and .u64 (n : Int) 1099511627775 = ((n % 1099511627776 : Nat) : Int) := by
  have := u64_low 40 n (by decide) h
  simpa using this
theorem low30 (n : Nat) (h : n < 18446744073709551616) : bits .and .u64 (n : Int) 1073741823 = ((n % 1073741824 : Nat) : Int) := by
  have := u64_low 30 n (by decide) h
  simpa using this
theorem low33 (n : Nat) (h : n < 18446744073709551616) : bits .and .u64 (n : Int) 8589934591 = ((n % 8589934592 : Nat) : Int) := by
  have := u64_low 33 n (by decide) h
  simpa using this
theorem low6 (n : Nat) (h : n < 18446744073709551616) : bits .and .u64 (n : Int) 63 = ((n % 64 : Nat) : Int) := by
  have := u64_low 6 n (by decide) h
  simpa using this
theorem i64and3 (n : Int) : bits .and .i64 n 3 = n % 4 := by simpa using i64_mask 2 (by decide) n
end Go.Proofs.YtkkodhjolgcokaaDoor
/-
  What AlarmApart leans on: a timer but for its turn; what may be done with the other one.
-/
namespace Go.Proofs.YtkkodhjolgcokaaDoor
open Go.RowKit Go.Lib
set_option linter.unusedVariables false

theorem neq_row (a b c d : Int) (w : World) : (binOp .neq 33 (.agg #[.int .i64 a, .int .u64 b, .int .u64 c, .int .u64 d]) (.agg #[.int .i64 a, .int .u64 b, .int .u64 c, .int .u64 d])).run Tryd.prog w = .ok (.bool false) w := by
  go_simp

/-- A timer with another turn. -/
def Ti.wu (x : Ti) (u : Nat) : Ti := ⟨x.is, x.st, x.h, x.t, x.p, u⟩
theorem sent_like (x : Ti) (s u u' v v' : Nat) (hi : x.is = true) : sentV (x.wu u).due s = sentV (x.wu u').due s ∧ ∃ (y : Ti) (p p' : Nat), sentX (x.wu u).due s v = y.wu p ∧ sentX (x.wu u').due s v' = y.wu p' ∧ y.is = true ∧ y.st ≤ 1 := by
  by_cases h : overT (x.wu u).due s
  · have h' : overT (x.wu u').due s := h
    obtain ⟨a1, a2, _⟩ := sent_one (x.wu u).due s v rfl h
    obtain ⟨b1, b2, _⟩ := sent_one (x.wu u').due s v' rfl h'
    exact ⟨a1.trans b1.symm, Ti.idle, 0, 0, a2, b2, rfl, Nat.zero_le _⟩
  · have h' : ¬ overT (x.wu u').due s := h
    obtain ⟨a1, a2, _⟩ := sent_more (x.wu u).due s v rfl h
    obtain ⟨b1, b2, _⟩ := sent_more (x.wu u').due s v' rfl h'
    exact ⟨a1.trans b1.symm, ⟨true, 1, x.h, x.t + turnsN x.t x.p s * x.p, x.p, 0⟩, v, v', a2, b2, rfl, Nat.le_refl _⟩
theorem sentU_le (x : Ti) (s u : Nat) : sentU x s u ≤ u + 1 := by
  unfold sentU
  split
  · omega
  · split <;> omega
theorem sentX_is (x : Ti) (s u : Nat) (h : x.is = true) : (sentX x s u).is = true := by
  unfold sentX
  split
  · exact h
  · split <;> rfl
theorem Bo.le {w : World} {lo hi bb n now tu : Nat} {T : Nat → Ti} (H : Bo w lo hi bb n now tu T) : lo ≤ hi := by
  obtain ⟨rb, ro, pb, po, b, g, l, h, wb, M, r, s⟩ := H
  omega
section
variable {w : World} {lo hi bb n now tu : Nat} {X Z : Ti}
theorem side_arm (h t pe : Nat) (H : Bo w lo hi bb n now tu (two X Z)) (hz : Z.is = true) (bh : h < 18446744073709551616) (bt : t < 18446744073709551616) (bp : pe < 18446744073709551616) (htu : tu + 1 < 18446744073709551616) :
    Calls Tryd.prog 10 #[.pointer (some ⟨bb, 0, none⟩), .int .i64 1, .int .u64 (h : Nat), .int .u64 (t : Nat), .int .u64 (pe : Nat)] w fun e w' => ∃ v Z' tu', e = .returned v ∧ Only lo hi w w' ∧ Bo w' lo hi bb n now tu' (two X Z') ∧ Z'.is = true ∧ tu' ≤ tu + 1 := by
  have h := bo_arm_in 1 h t pe H hz bh bt bp htu
  rw [two_up1] at h
  exact h.mono fun e w' ⟨he, k, b⟩ => ⟨_, _, _, he, k, b, rfl, Nat.le_refl _⟩
theorem side_stop (H : Bo w lo hi bb n now tu (two X Z)) (hz : Z.is = true) :
    Calls Tryd.prog 16 #[.pointer (some ⟨bb, 0, none⟩), .int .i64 1] w fun e w' => ∃ v Z' tu', e = .returned v ∧ Only lo hi w w' ∧ Bo w' lo hi bb n now tu' (two X Z') ∧ Z'.is = true ∧ tu' ≤ tu + 1 := by
  by_cases hs : Z.st = 0
  · exact (bo_stop_no 1 H hs).mono fun e w' ⟨he, k, b⟩ => ⟨_, _, _, he, k, b, hz, Nat.le_succ _⟩
  · have h := bo_stop_in 1 H hs
    rw [two_up1] at h
    exact h.mono fun e w' ⟨he, k, b⟩ => ⟨_, _, _, he, k, b, rfl, Nat.le_succ _⟩
theorem side_sent (s : Nat) (H : Bo w lo hi bb n now tu (two X Z)) (hz : Z.is = true) (bs : s < 18446744073709551616) (htu : tu + 1 < 18446744073709551616) :
    Calls Tryd.prog 13 #[.pointer (some ⟨bb, 0, none⟩), .int .i64 1, .int .u64 (s : Nat)] w fun e w' => ∃ v Z' tu', e = .returned v ∧ Only lo hi w w' ∧ Bo w' lo hi bb n now tu' (two X Z') ∧ Z'.is = true ∧ tu' ≤ tu + 1 := by
  have h := bo_sent_in 1 s H bs htu
  rw [two_1, two_up1] at h
  exact h.mono fun e w' ⟨he, k, b⟩ => ⟨_, _, _, he, k, b, sentX_is _ _ _ hz, sentU_le _ _ _⟩
/-- To of a book of two, by what becomes of the first. -/
theorem to_first (tg : Nat) (H : Bo w lo hi bb n now tu (two X Z)) (hz : Z.is = true) (hn : now ≤ tg) (htg : tg < 18446744073709551616) :
    Calls Tryd.prog 11 #[.pointer (some ⟨bb, 0, none⟩), .int .u64 (tg : Nat)] w fun e w' => ∃ (R : List Nat) (r cp : Nat) (Z' : Ti), e = .returned (.slice (some ⟨r, 0, none⟩) R.length cp) ∧ RowOf w' w.heap.size r cp R ∧ Only lo hi w w' ∧ Bo w' lo hi bb n tg tu (two (if X.told tg then X.due else X) Z') ∧ Z'.is = true ∧ (0 ∈ R ↔ X.told tg) ∧ R.length ≤ 2 := by
  refine (bo_to tg H htg).mono ?_
  rintro e w' ⟨R, r, cp, he, hr, hk, hb, hd, hm, hs⟩
  rw [show max now tg = tg by omega] at hb hm
  have hl := two_lt X Z R _ hm
  have h0 : 0 ∈ R ↔ X.told tg := hm 0
  rw [two_due _ _ _ hl] at hb
  have hlen := len_two hd hl
  simp only [h0] at hb
  refine ⟨R, r, cp, _, he, hr, hk, hb, ?_, h0, ?_⟩
  · split
    · exact hz
    · exact hz
  · rw [hlen]
    split <;> split <;> omega
end
theorem take_zero_mem (R : List Nat) (i : Nat) (hi : i < R.length) : decide (0 ∈ R.take (i + 1)) = (decide (0 ∈ R.take i) || decide (R[i] = 0)) := by
  have hm : 0 ∈ R.take (i + 1) ↔ 0 ∈ R.take i ∨ R[i] = 0 := by rw [List.take_succ_eq_append_getElem hi, List.mem_append, List.mem_singleton, eq_comm (a := 0)]
  by_cases h1 : 0 ∈ R.take i <;> by_cases h2 : R[i] = 0 <;> simp [hm, h1, h2]
end Go.Proofs.YtkkodhjolgcokaaDoor
