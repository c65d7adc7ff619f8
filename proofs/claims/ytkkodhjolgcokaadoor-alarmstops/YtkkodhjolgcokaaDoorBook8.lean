/-
  What 'book' of the laws of alarm makes; To of a book of two timers.
-/
import Derived.Test.YtkkodhjolgcokaaDoorAlive8
import Derived.Test.YtkkodhjolgcokaaDoorPlain
namespace Go.Proofs.YtkkodhjolgcokaaDoor
open Go.RowKit Go.Lib
set_option maxRecDepth 100000

set_option maxRecDepth 100000 in
theorem book_made (room now : Nat) (w : World) (hr : room ≤ 256) (hnow : now < 18446744073709551616) : Calls Tryd.prog 8 #[.int .i64 room, .int .u64 (now : Nat)] w fun e w' => ∃ bb, e = .returned (.pointer (some ⟨bb, 0, none⟩)) ∧ w.grownBy w' none ∧ Bo w' w.heap.size w'.heap.size bb room now 0 (fun _ => Ti.none) := by
  have ka := World.grownBy_alloc w (.cells #[.int .i64 2, .int .i64 room] 3) none
  have CA := Lib.hid (SA.new_made _ 2 2 _ _ (caps_two w 2 room))
  have KA := Lib.hid ka
  clear ka
  go_enter Tryd.func8, Tryd.ntmps8
  go_wp2_with fail
  refine CA.out.mono ?_
  rintro e u0 ⟨sb, rb, rfl, q0, A0⟩
  have g0 := grow_to KA.out q0
  have hlo : w.heap.size ≤ (w.alloc (.cells #[.int .i64 2, .int .i64 room] 3)).heap.size := KA.out.size
  generalize (w.alloc (.cells #[.int .i64 2, .int .i64 room] 3)).heap.size = lo at A0 hlo
  clear CA q0
  have C1 : Hid (Calls Tryd.prog 19 #[.pointer (some ⟨sb, 0, none⟩), .int .i64 1] u0 fun e w' => e = .returned (.pointer (some ⟨rb, 2, none⟩)) ∧ u0.grownBy w' none) := Lib.hid (SA.region_in 1 A0 (by decide))
  go_wp2_with fail
  refine C1.out.mono ?_
  rintro e u1 ⟨rfl, q1⟩
  have A1 := A0.grown q1
  have g1 := grow_to g0 q1
  clear C1 A0 g0 q1
  have C1 : Hid (Calls Tryd.prog 20 #[.pointer (some ⟨rb, 2, none⟩), .int .u64 (now : Nat)] u1 fun e w' => ∃ bb, e = .returned (.pointer (some ⟨bb, 0, none⟩)) ∧ u1.grownBy w' none ∧ Bo w' lo w'.heap.size bb room now 0 (fun _ => Ti.none)) := Lib.hid (by
    have := bo_new 1 now hnow (by decide) A1
    have e1 : nOf (fun j => if j = 0 then 2 else (room : Int)) 1 = room := by simp [nOf, roomN]; omega
    rwa [e1] at this)
  go_wp2_with fail
  refine C1.out.mono ?_
  rintro e w0 ⟨tb, rfl, k0, H0⟩
  have G0 := grow_to g1 k0
  clear C1 A1 g1 k0
  go_wp2
  go_ret
  obtain ⟨rb, ro, pb, po, b, g, l, h, wb, H, r, s⟩ := H0
  exact ⟨tb, rfl, G0, rb, ro, pb, po, b, g, l, h, wb, H, by omega, s⟩

/-- Is a timer told at a time? -/
def Ti.told (x : Ti) (t : Nat) : Prop := x.st = 1 ∧ x.t ≤ t
instance (x : Ti) (t : Nat) : Decidable (x.told t) := inferInstanceAs (Decidable (_ ∧ _))
theorem len_two {R : List Nat} (hn : R.Nodup) (h : ∀ k, k ∈ R → k < 2) : R.length = (if 0 ∈ R then 1 else 0) + (if 1 ∈ R then 1 else 0) := by
  match R, hn, h with
  | [], _, _ => rfl
  | [x], _, h =>
    have h1 := h x (by simp)
    have : x = 0 ∨ x = 1 := by omega
    rcases this with rfl | rfl <;> rfl
  | [x, y], hn, h =>
    have h1 := h x (by simp)
    have h2 := h y (by simp)
    have h3 : x ≠ y := by simpa using hn
    have : (x = 0 ∧ y = 1) ∨ (x = 1 ∧ y = 0) := by omega
    rcases this with ⟨rfl, rfl⟩ | ⟨rfl, rfl⟩ <;> rfl
  | x :: y :: z :: l, hn, h =>
    have h1 := h x (by simp)
    have h2 := h y (by simp)
    have h3 := h z (by simp)
    simp at hn
    omega
theorem bo_to2 {w : World} {lo hi bb n now tu : Nat} {X Y : Ti} (tg : Nat) (H : Bo w lo hi bb n now tu (two X Y)) (htg : tg < 18446744073709551616) :
    Calls Tryd.prog 11 #[.pointer (some ⟨bb, 0, none⟩), .int .u64 (tg : Nat)] w fun e w' => ∃ (R : List Nat) (r cp : Nat), e = .returned (.slice (some ⟨r, 0, none⟩) ((if X.told (max now tg) then 1 else 0) + (if Y.told (max now tg) then 1 else 0) : Nat) cp) ∧ RowOf w' w.heap.size r cp R ∧ Only lo hi w w' ∧ Bo w' lo hi bb n (max now tg) tu (two (if X.told (max now tg) then X.due else X) (if Y.told (max now tg) then Y.due else Y)) ∧ R.Nodup ∧ (∀ k, k ∈ R ↔ (k = 0 ∧ X.told (max now tg)) ∨ (k = 1 ∧ Y.told (max now tg))) := by
  refine (bo_to tg H htg).mono ?_
  rintro e w' ⟨R, r, cp, he, hr, hk, hb, hn, hm, hs⟩
  have hl := two_lt X Y R _ hm
  have h0 : 0 ∈ R ↔ X.told (max now tg) := hm 0
  have h1 : 1 ∈ R ↔ Y.told (max now tg) := hm 1
  rw [two_due _ _ _ hl] at hb
  rw [len_two hn hl] at he
  simp only [h0, h1] at hb he
  refine ⟨R, r, cp, he, hr, hk, hb, hn, fun k => ⟨fun h => ?_, fun h => ?_⟩⟩
  · have hk2 := hl k h
    match k, hk2 with
    | 0, _ => exact Or.inl ⟨rfl, h0.1 h⟩
    | 1, _ => exact Or.inr ⟨rfl, h1.1 h⟩
  · rcases h with ⟨rfl, h⟩ | ⟨rfl, h⟩
    · exact h0.2 h
    · exact h1.2 h
theorem u64_low (i : Nat) (n : Nat) (hi : i ≤ 63) (h : n < 18446744073709551616) : bits .and .u64 (n : Int) ((2 ^ i - 1 : Nat) : Int) = ((n % 2 ^ i : Nat) : Int) := by
  have hp : 2 ^ i ≤ 2 ^ 63 := Nat.pow_le_pow_right (by decide) hi
  have hp0 : 0 < 2 ^ i := Nat.two_pow_pos i
  rw [bits_and_u64_nat n (2 ^ i - 1) h (by omega), Nat.and_two_pow_sub_one_eq_mod]
theorem low40 (n : Nat) (h : n < 18446744073709551616) : bits .and .u64 (n : Int) 1099511627775 = ((n % 1099511627776 : Nat) : Int) := by
  have := u64_low 40 n (by decide) h
  simpa using this
theorem low30 (n : Nat) (h : n < 18446744073709551616) : bits .and .u64 (n : Int) 1073741823 = ((n % 1073741824 : Nat) : Int) := by
  have := u64_low 30 n (by decide) h
  simpa using this
theorem low33 (n : Nat) (h : n < 18446744073709551616) : bits .and .u64 (n : Int) 8589934591 = ((n % 8589934592 : Nat) : Int) := by
  have := u64_low 33 n (by decide) h
  simpa using this
theorem low6 (n : Nat) (h : n < 18446744073709551616) : bits .and .u64 (n : Int) 63 = ((n % 64 : Nat) : Int) := by
  have := u64_low 6 n (by decide) h
  simpa using this
theorem i64and3 (n : Int) : bits .and .i64 n 3 = n % 4 := by simpa using i64_mask 2 (by decide) n
end Go.Proofs.YtkkodhjolgcokaaDoor
