/-
  Contracts of package bits, over this seat's translation.
-/
import Derived.Test.YtkkodhjolgcokaaDoorRows
import Derived.WalkKit
import Derived.WalkSpells
import Derived.Lib.Hide
import Derived.Test.YtkkodhjolgcokaaDoorWord
import Derived.Deep.OwnRows
import Derived.Deep.Draws
import Derived.Deep.AppendLies
import Derived.StillTailTactics
import Derived.Laws.BitsAllLaws
import Derived.Test.YtkkodhjolgcokaaDoorPlain
import Derived.Deep.QuietTactic
import Derived.BigQuiet
namespace Go.Proofs.YtkkodhjolgcokaaDoor
open Go.RowKit Go.Lib
set_option maxRecDepth 100000

theorem ret_int {k : IntKind} {a b : Int} (h : a = b) : Ending.returned (.int k a) = .returned (.int k b) := by rw [h]
theorem ret_bool {a b : Bool} (h : a = b) : Ending.returned (.bool a) = .returned (.bool b) := by rw [h]

set_option maxHeartbeats 400000 in
theorem clamp_any (n lo hi : Int) (w : World) :
    Calls Tryd.prog 58 #[.int .i64 n, .int .i64 lo, .int .i64 hi] w fun e w' => e = .returned (.int .i64 (max lo (min n hi))) ∧ w = w' := by
  go_enter Tryd.func58, Tryd.ntmps58
  go_wp2
  all_goals
    go_ret
    exact ⟨ret_int (by omega), rfl⟩

set_option maxHeartbeats 400000 in
theorem fits_in (b k n : Nat) (w : World) (hk : k < n) (hc : w.cell? ⟨b, 0, none⟩ = some (.int .i64 n)) :
    Calls Tryd.prog 62 #[.pointer (some ⟨b, 0, none⟩), .int .i64 k] w fun e w' => e = .returned (.bool true) ∧ w = w' := by
  go_enter Tryd.func62, Tryd.ntmps62
  go_wp2
  go_ret
  exact ⟨rfl, rfl⟩

set_option maxHeartbeats 400000 in
theorem fits_out (b n : Nat) (k : Int) (w : World) (hk : k < 0 ∨ (n : Int) ≤ k) (hc : w.cell? ⟨b, 0, none⟩ = some (.int .i64 n)) :
    Calls Tryd.prog 62 #[.pointer (some ⟨b, 0, none⟩), .int .i64 k] w fun e w' => e = .returned (.bool false) ∧ w = w' := by
  by_cases h0 : k < 0
  · clear hk
    go_enter Tryd.func62, Tryd.ntmps62
    go_wp2
    go_ret
    exact ⟨rfl, rfl⟩
  · have h1 : ¬ k < (n : Int) := by omega
    have h2 : 0 ≤ k := by omega
    clear hk h0
    go_enter Tryd.func62, Tryd.ntmps62
    go_wp2
    go_ret
    exact ⟨rfl, rfl⟩

theorem powW (m : Nat) (hm : m < 64) : IntKind.u64.wrap ((2 : Int) ^ m) = ((2 ^ m : Nat) : Int) := by
  have h := pow_lt m hm
  have e : ((2 : Int) ^ m) = ((2 ^ m : Nat) : Int) := by rw [Int.natCast_pow]; rfl
  rw [e]
  generalize 2 ^ m = x at *
  rw [IntKind.wrap_u64]
  omega

set_option maxHeartbeats 400000 in
theorem bit_any (k : Nat) (w : World) (hk : k < 9223372036854775808) :
    Calls Tryd.prog 63 #[.int .i64 k] w fun e w' => e = .returned (.int .u64 ((2 ^ (k % 64) : Nat) : Int)) ∧ w' = w := by
  go_enter Tryd.func63, Tryd.ntmps63
  go_wp2
  go_ret
  exact ⟨ret_int (powW _ (Nat.mod_lt _ (by decide))), rfl⟩

/-- The library's table, as it is laid. -/
def TabAt (w : World) : Prop := ∀ j, j < Lib.deBruijn64tab.length → w.cell? ⟨0, j, none⟩ = some (.int .u8 (Lib.deBruijn64tab.getD j 0))

set_option maxHeartbeats 400000 in
theorem tz_core (x k idx : Nat) (w : World) (hx0 : ((x : Int) == 0) = false)
    (key : IntKind.u64.wrap (bits BinOp.and IntKind.u64 (x : Int) (IntKind.u64.wrap (-(x : Int))) * 285870213051353865) / 288230376151711744 = (idx : Int))
    (hi : idx < 64) (hk : k < 64) (hcell : w.cell? ⟨0, idx, none⟩ = some (.int .u8 k)) :
    Calls Tryd.prog 78 #[.int .u64 x] w fun e w' => e = .returned (.int .i64 k) ∧ w = w' := by
  go_enter Tryd.func78, Tryd.ntmps78
  go_wp2_with (simp only [key])
  go_ret
  exact ⟨rfl, rfl⟩
theorem tz_key (x a : Nat) (hx : x < 18446744073709551616) (hx0 : x ≠ 0) (hlow : x &&& (18446744073709551616 - x) = a) :
    IntKind.u64.wrap (bits BinOp.and IntKind.u64 (x : Int) (IntKind.u64.wrap (-(x : Int))) * 285870213051353865) / 288230376151711744 = ((a * 285870213051353865 % 18446744073709551616 / 288230376151711744 : Nat) : Int) := by
  have e1 : IntKind.u64.wrap (-(x : Int)) = ((18446744073709551616 - x : Nat) : Int) := by rw [IntKind.wrap_u64]; omega
  rw [e1, bits_and_u64_nat x _ hx (by omega), hlow, IntKind.wrap_u64]
  omega
/-- math/bits.TrailingZeros64 of a word that is not 0: its lowest bit. -/
theorem tz_any (x : Nat) (w : World) (hx0 : x ≠ 0) (hx : x < 18446744073709551616) (hT : TabAt w) :
    Calls Tryd.prog 78 #[.int .u64 x] w fun e w' => e = .returned (.int .i64 (Lib.ctz 64 x : Nat)) ∧ w = w' := by
  obtain ⟨hlow, hk⟩ := Lib.lowest_bit 64 x hx0 hx
  obtain ⟨hi, htab⟩ := Lib.deBruijn64_at _ hk
  have hcell := hT _ hi
  rw [htab] at hcell
  exact tz_core x _ _ w (by simp; omega) (tz_key x _ hx hx0 hlow) hi hk hcell

set_option maxHeartbeats 1000000 in
theorem ones_any (x : Nat) (w : World) (hx : x < 18446744073709551616) :
    Calls Tryd.prog 76 #[.int .u64 x] w fun e w' => e = .returned (.int .i64 (cnt (fun i => x.testBit i) 64 : Nat)) ∧ w = w' := by
  obtain ⟨hz, hc⟩ := swar_fold x
  have HC := Lib.hid hc
  clear hc
  go_enter Tryd.func76, Tryd.ntmps76
  go_wp2
  go_ret
  refine ⟨ret_int ?_, rfl⟩
  rw [← HC.out, ← fold4 _ hz]
  rw [fold1 x hx, fold2 _ (s1_lt x), fold3 _ (s2_lt _)]
  rfl

/-- A set of the program: block b holds its size and its words' slice, block g the words. -/
structure SetAt (w : World) (b g n : Nat) (S : Nat → Bool) : Prop where
  size : n ≤ 4096
  bound : ∀ i, n ≤ i → S i = false
  c0 : w.cell? ⟨b, 0, none⟩ = some (.int .i64 n)
  c1 : w.cell? ⟨b, 1, none⟩ = some (.slice (some ⟨g, 0, none⟩) ((n + 63) / 64) ((n + 63) / 64))
  cw : ∀ j, j < (n + 63) / 64 → w.cell? ⟨g, j, none⟩ = some (.int .u64 (word S j : Nat))
  cf : ∀ j, j < (n + 63) / 64 → w.frozen? ⟨g, j, none⟩ = false
  bg : b ≠ g
  hb : b < w.heap.size
  hg : g < w.heap.size

theorem SetAt.drewN {w : World} {b g n : Nat} {S : Nat → Bool} (h : SetAt w b g n S) (k : Nat) : SetAt (w.drewN k) b g n S :=
  ⟨h.size, h.bound, h.c0, h.c1, h.cw, h.cf, h.bg, h.hb, h.hg⟩
theorem SetAt.kept {w w' : World} {b g n : Nat} {S : Nat → Bool} (h : SetAt w b g n S) {row : Option Nat} (hw : w.grownBy w' row) (h1 : some b ≠ row) (h2 : some g ≠ row) : SetAt w' b g n S :=
  ⟨h.size, h.bound, (hw.cell_far ⟨b, 0, none⟩ h.hb h1).trans h.c0, (hw.cell_far ⟨b, 1, none⟩ h.hb h1).trans h.c1, fun j hj => (hw.cell_far ⟨g, j, none⟩ h.hg h2).trans (h.cw j hj),
    fun j hj => (hw.frozen_far ⟨g, j, none⟩ h.hg h2).trans (h.cf j hj), h.bg, Nat.lt_of_lt_of_le h.hb hw.size, Nat.lt_of_lt_of_le h.hg hw.size⟩

set_option maxHeartbeats 1000000 in
theorem has_in (b g n k : Nat) (S : Nat → Bool) (w : World) (h : SetAt w b g n S) (hk : k < n) :
    Calls Tryd.prog 39 #[.pointer (some ⟨b, 0, none⟩), .int .i64 k] w fun e w' => e = .returned (.bool (S k)) ∧ ∃ m, w' = w.drewN m := by
  have h0 := h.c0
  have h1 := h.c1
  have hsz := h.size
  have hq : k / 64 < (n + 63) / 64 := by omega
  have h2 := h.cw _ hq
  have hwd := word_lt S (k / 64)
  have hpw := pow_lt (k % 64) (Nat.mod_lt _ (by decide))
  have hand := bits_and_u64_nat (word S (k / 64)) (2 ^ (k % 64)) hwd hpw
  rw [word_has] at hand
  have hp0 : 0 < 2 ^ (k % 64) := Nat.two_pow_pos _
  generalize word S (k / 64) = wd at *
  have hf := fits_in b k n w hk h0
  have hbt : ∀ W : World, Calls Tryd.prog 63 #[.int .i64 k] W fun e w' => e = .returned (.int .u64 ((2 ^ (k % 64) : Nat) : Int)) ∧ w' = W := fun W => bit_any k W (by omega)
  generalize 2 ^ (k % 64) = pw at *
  have HF := Lib.hid hf
  have HB := Lib.hid hbt
  clear hf hbt
  cases hS : S k
  · rw [hS] at hand
    have hand' : bits .and .u64 (wd : Int) (pw : Int) = 0 := hand
    clear hand h
    go_enter Tryd.func39, Tryd.ntmps39
    go_wp2_with fail
    go_quiet ((first | (go_at_call 62; exact Calls.quiet_of_same ((fits_in b k n _ hk (by assumption)).mono fun _ _ ⟨a, c⟩ => ⟨a, c.symm⟩)) | (go_at_call 63; exact Calls.quiet_of_same (HB.out _))))
    go_wp2
    go_ret
    exact ⟨rfl, nq, rfl⟩
  · rw [hS] at hand
    have hand' : bits .and .u64 (wd : Int) (pw : Int) = (pw : Int) := hand
    have hne : ((pw : Int) != 0) = true := by simp; omega
    clear hand h
    go_enter Tryd.func39, Tryd.ntmps39
    go_wp2_with fail
    go_quiet ((first | (go_at_call 62; exact Calls.quiet_of_same ((fits_in b k n _ hk (by assumption)).mono fun _ _ ⟨a, c⟩ => ⟨a, c.symm⟩)) | (go_at_call 63; exact Calls.quiet_of_same (HB.out _))))
    go_wp2
    go_ret
    exact ⟨rfl, nq, rfl⟩

set_option maxHeartbeats 1000000 in
theorem has_out (b g n : Nat) (k : Int) (S : Nat → Bool) (w : World) (h : SetAt w b g n S) (hk : k < 0 ∨ (n : Int) ≤ k) :
    Calls Tryd.prog 39 #[.pointer (some ⟨b, 0, none⟩), .int .i64 k] w fun e w' => e = .returned (.bool false) ∧ ∃ m, w' = w.drewN m := by
  have h0 := h.c0
  have HK := Lib.hid hk
  clear hk h
  go_enter Tryd.func39, Tryd.ntmps39
  go_wp2_with fail
  go_quiet ((go_at_call 62; exact Calls.quiet_of_same ((fits_out b n k _ HK.out (by assumption)).mono fun _ _ ⟨a, c⟩ => ⟨a, c.symm⟩)))
  go_wp2
  go_ret
  exact ⟨rfl, nq, rfl⟩

theorem grow_draw (w : World) (row : Option Nat) (m : Nat) : w.grownBy (w.drewN m) row := ⟨rfl, rfl, rfl, Nat.le_refl _, fun _ _ _ => rfl⟩
theorem SetAt.drew {w : World} {b g n : Nat} {S : Nat → Bool} (h : SetAt w b g n S) : SetAt w.drew b g n S :=
  ⟨h.size, h.bound, h.c0, h.c1, h.cw, h.cf, h.bg, h.hb, h.hg⟩

theorem SetAt.store {w : World} {b g n : Nat} {S T : Nat → Bool} (h : SetAt w b g n S) (q : Nat) (hq : q < (n + 63) / 64) (hT : ∀ i, n ≤ i → T i = false) (ho : ∀ j, j ≠ q → word T j = word S j) (v : Int) (hv : v = (word T q : Nat)) :
    SetAt (w.setCell ⟨g, q, none⟩ (.int .u64 v)) b g n T := by
  subst hv
  have hz : (w.setCell ⟨g, q, none⟩ (.int .u64 (word T q : Nat))).heap.size = w.heap.size := by simp [World.setCell]
  refine ⟨h.size, hT, ?_, ?_, fun j hj => ?_, fun j hj => ?_, h.bg, by rw [hz]; exact h.hb, by rw [hz]; exact h.hg⟩
  · rw [World.cell?_setCell_other _ _ _ _ (by intro e; cases e; exact h.bg rfl)]; exact h.c0
  · rw [World.cell?_setCell_other _ _ _ _ (by intro e; cases e; exact h.bg rfl)]; exact h.c1
  · by_cases e : j = q
    · subst e; exact World.cell?_setCell_same _ _ _ (h.cw j hj)
    · rw [World.cell?_setCell_other _ _ _ _ (by intro e'; cases e'; exact e rfl), h.cw j hj, ho j e]
  · rw [World.frozen?_setCell]; exact h.cf j hj
theorem ins_bound {S : Nat → Bool} {n k : Nat} (hk : k < n) (h : ∀ i, n ≤ i → S i = false) (i : Nat) (hi : n ≤ i) : ins S k i = false := by
  have : i ≠ k := by omega
  simp [ins, this, h i hi]
theorem del_bound {S : Nat → Bool} {n k : Nat} (h : ∀ i, n ≤ i → S i = false) (i : Nat) (hi : n ≤ i) : del S k i = false := by
  simp [del, h i hi]
theorem grow_set {a w : World} {g q : Nat} (h : a.grownBy w (some g)) (u : Value) : a.grownBy (w.setCell ⟨g, q, none⟩ u) (some g) :=
  ⟨h.os, h.tape, h.output, by simpa [World.setCell] using h.size, fun i hi hne => (Below.heap_setCell w ⟨g, q, none⟩ u i (by rintro rfl; exact hne rfl)).trans (h.block i hi hne)⟩

set_option maxRecDepth 100000 in
set_option maxHeartbeats 1000000 in
theorem put_in (b g n k : Nat) (S : Nat → Bool) (w : World) (h : SetAt w b g n S) (hk : k < n) (hS : S k = false) :
    Calls Tryd.prog 38 #[.pointer (some ⟨b, 0, none⟩), .int .i64 k] w fun e w' => e = .returned (.bool true) ∧ w.grownBy w' (some g) ∧ SetAt w' b g n (ins S k) := by
  have h0 := h.c0
  have hsz := h.size
  have hq : k / 64 < (n + 63) / 64 := by omega
  have hi := has_in b g n k S w h hk
  rw [hS] at hi
  have HI := Lib.hid hi
  have HH := Lib.hid h
  clear hi h
  go_enter Tryd.func38, Tryd.ntmps38
  go_wp2_with fail
  refine (fits_in b k n _ hk h0).mono ?_
  rintro e w' ⟨rfl, rfl⟩
  go_wp2_with fail
  refine HI.out.mono ?_
  rintro e w1 ⟨rfl, m, hw1⟩
  have hs1 : SetAt w1 b g n S := hw1 ▸ HH.out.drewN m
  have hg1 : w.grownBy w1 (some g) := hw1 ▸ grow_draw w _ m
  clear hw1
  have HS := Lib.hid hs1
  clear hs1 h0
  go_wp2_with fail
  refine wp_region_still_tail 12 (by kernel_rfl) (by kernel_rfl) ?_
  simp only [List.take_succ_cons, List.take_zero, List.drop_succ_cons, List.drop_zero]
  change wpStill _ _ w1.drew (fun a' => wpList _ _ _ _ a' w1.drew) _ _
  have hs2 : SetAt w1.drew b g n S := HS.out.drew
  have hg2 : w.grownBy w1.drew (some g) := ⟨hg1.os, hg1.tape, hg1.output, hg1.size, hg1.block⟩
  generalize w1.drew = w2 at hs2 hg2 ⊢
  clear hg1 HS
  have h1 := hs2.c1
  have h2 := hs2.cw _ hq
  have h3 := hs2.cf _ hq
  have q1 : IntKind.i64.wrap ((k : Int) / 64) = (k : Int) / 64 := by rw [IntKind.wrap_i64]; omega
  have q2 : 0 ≤ (k : Int) / 64 := by omega
  have q3 : (k : Int) / 64 < ((n : Int) + 63) / 64 := by omega
  have q4 : ((k : Int) / 64).toNat = k / 64 := by omega
  repeat still_step
  still_call (bit_any k _ (by omega))
  repeat still_step
  refine wpStill_nil ?_
  have hwd := word_lt S (k / 64)
  have hpw := pow_lt (k % 64) (Nat.mod_lt _ (by decide))
  go_wp2
  go_ret
  refine ⟨rfl, grow_set hg2 _, hs2.store _ hq (ins_bound hk hs2.bound) (fun j hj => word_ins_other S k j hj) _ ?_⟩
  have e := bits_or_u64_nat (word S (k / 64)) (2 ^ (k % 64)) hwd hpw
  rw [← word_ins_same, Int.natCast_pow] at e
  exact e

set_option maxRecDepth 100000 in
set_option maxHeartbeats 1000000 in
theorem drop_in (b g n k : Nat) (S : Nat → Bool) (w : World) (h : SetAt w b g n S) (hk : k < n) (hS : S k = true) :
    Calls Tryd.prog 57 #[.pointer (some ⟨b, 0, none⟩), .int .i64 k] w fun e w' => e = .returned (.bool true) ∧ w.grownBy w' (some g) ∧ SetAt w' b g n (del S k) := by
  have h0 := h.c0
  have hsz := h.size
  have hq : k / 64 < (n + 63) / 64 := by omega
  have hi := has_in b g n k S w h hk
  rw [hS] at hi
  have HI := Lib.hid hi
  have HH := Lib.hid h
  clear hi h
  go_enter Tryd.func57, Tryd.ntmps57
  go_wp2_with fail
  refine HI.out.mono ?_
  rintro e w1 ⟨rfl, m, hw1⟩
  have hs1 : SetAt w1 b g n S := hw1 ▸ HH.out.drewN m
  have hg1 : w.grownBy w1 (some g) := hw1 ▸ grow_draw w _ m
  clear hw1
  have HS := Lib.hid hs1
  clear hs1 h0
  go_wp2_with fail
  refine wp_region_still_tail 12 (by kernel_rfl) (by kernel_rfl) ?_
  simp only [List.take_succ_cons, List.take_zero, List.drop_succ_cons, List.drop_zero]
  change wpStill _ _ w1.drew (fun a' => wpList _ _ _ _ a' w1.drew) _ _
  have hs2 : SetAt w1.drew b g n S := HS.out.drew
  have hg2 : w.grownBy w1.drew (some g) := ⟨hg1.os, hg1.tape, hg1.output, hg1.size, hg1.block⟩
  generalize w1.drew = w2 at hs2 hg2 ⊢
  clear hg1 HS
  have h1 := hs2.c1
  have h2 := hs2.cw _ hq
  have h3 := hs2.cf _ hq
  have q1 : IntKind.i64.wrap ((k : Int) / 64) = (k : Int) / 64 := by rw [IntKind.wrap_i64]; omega
  have q2 : 0 ≤ (k : Int) / 64 := by omega
  have q3 : (k : Int) / 64 < ((n : Int) + 63) / 64 := by omega
  have q4 : ((k : Int) / 64).toNat = k / 64 := by omega
  repeat still_step
  still_call (bit_any k _ (by omega))
  repeat still_step
  refine wpStill_nil ?_
  have hwd := word_lt S (k / 64)
  have hpw := pow_lt (k % 64) (Nat.mod_lt _ (by decide))
  go_wp2
  go_ret
  refine ⟨rfl, grow_set hg2 _, hs2.store _ hq (del_bound hs2.bound) (fun j hj => word_del_other S k j hj) _ ?_⟩
  have e := u64_andNot_nat (word S (k / 64)) (2 ^ (k % 64)) hwd hpw
  rw [← word_del_same, Int.natCast_pow] at e
  exact e

set_option maxHeartbeats 1000000 in
theorem put_out (b g n : Nat) (k : Int) (S : Nat → Bool) (w : World) (h : SetAt w b g n S) (hk : k < 0 ∨ (n : Int) ≤ k) :
    Calls Tryd.prog 38 #[.pointer (some ⟨b, 0, none⟩), .int .i64 k] w fun e w' => e = .returned (.bool false) ∧ ∃ m, w' = w.drewN m := by
  have HF := Lib.hid (fits_out b n k w hk h.c0)
  clear hk h
  go_enter Tryd.func38, Tryd.ntmps38
  go_wp2_with fail
  refine (HF.out).mono ?_
  rintro e w' ⟨rfl, rfl⟩
  go_wp2
  go_ret
  exact ⟨rfl, 0, rfl⟩

set_option maxHeartbeats 1000000 in
theorem put_had (b g n k : Nat) (S : Nat → Bool) (w : World) (h : SetAt w b g n S) (hk : k < n) (hS : S k = true) :
    Calls Tryd.prog 38 #[.pointer (some ⟨b, 0, none⟩), .int .i64 k] w fun e w' => e = .returned (.bool false) ∧ ∃ m, w' = w.drewN m := by
  have HF := Lib.hid (fits_in b k n w hk h.c0)
  have hi := has_in b g n k S w h hk
  rw [hS] at hi
  have HI := Lib.hid hi
  clear hi h
  go_enter Tryd.func38, Tryd.ntmps38
  go_wp2_with fail
  refine (HF.out).mono ?_
  rintro e w' ⟨rfl, rfl⟩
  go_wp2_with fail
  refine HI.out.mono ?_
  rintro e w1 ⟨rfl, m, rfl⟩
  go_wp2
  go_ret
  exact ⟨rfl, m, rfl⟩

set_option maxHeartbeats 1000000 in
theorem drop_out (b g n : Nat) (k : Int) (S : Nat → Bool) (w : World) (h : SetAt w b g n S) (hk : k < 0 ∨ (n : Int) ≤ k) :
    Calls Tryd.prog 57 #[.pointer (some ⟨b, 0, none⟩), .int .i64 k] w fun e w' => e = .returned (.bool false) ∧ ∃ m, w' = w.drewN m := by
  have HI := Lib.hid (has_out b g n k S w h hk)
  clear hk h
  go_enter Tryd.func57, Tryd.ntmps57
  go_wp2_with fail
  refine HI.out.mono ?_
  rintro e w1 ⟨rfl, m, rfl⟩
  go_wp2
  go_ret
  exact ⟨rfl, m, rfl⟩

set_option maxHeartbeats 1000000 in
theorem drop_not (b g n k : Nat) (S : Nat → Bool) (w : World) (h : SetAt w b g n S) (hk : k < n) (hS : S k = false) :
    Calls Tryd.prog 57 #[.pointer (some ⟨b, 0, none⟩), .int .i64 k] w fun e w' => e = .returned (.bool false) ∧ ∃ m, w' = w.drewN m := by
  have hi := has_in b g n k S w h hk
  rw [hS] at hi
  have HI := Lib.hid hi
  clear hi h
  go_enter Tryd.func57, Tryd.ntmps57
  go_wp2_with fail
  refine HI.out.mono ?_
  rintro e w1 ⟨rfl, m, rfl⟩
  go_wp2
  go_ret
  exact ⟨rfl, m, rfl⟩


end Go.Proofs.YtkkodhjolgcokaaDoor
