/-
  Contracts of package ledger, over this seat's translation, for a book of numbers that has one line.
-/
import Derived.Test.YtchookgdajkipaaLedKeysI
namespace Go.Proofs.Ytchookgdajkipaa.LI
open Go.RowKit Go.Lib

section
variable {w : World} {B bb n : Nat} {v : Value} {K K' : Nat → Int} {M M' U U' : Nat → Int}
theorem Bk.congr (H : Bk w B bb v n K M U) (h : ∀ j, j < n → K j = K' j ∧ M j = M' j ∧ U j = U' j) : Bk w B bb v n K' M' U' :=
  ⟨H.c0, H.f0, by rw [← lcells_congr h]; exact H.own, fun i j hij hj => by rw [← (h i (by omega)).1, ← (h j hj).1]; exact H.srt i j hij hj, fun j hj => by rw [← (h j hj).2.1, ← (h j hj).2.2]; exact H.bd j hj, H.nb, H.lb, H.hn⟩

/-- A book of one line. -/
def One (w : World) (B bb : Nat) (v : Value) (key : Int) (m u : Int) : Prop := Bk w B bb v 1 (fun _ => key) (fun _ => m) (fun _ => u)
variable {key : Int} {m u : Int}
theorem keq_self (key : Int) : keq key key = true := by simp [keq]
theorem known_one (key : Int) : Known (fun _ => key) 1 key 0 := ⟨by decide, keq_self key⟩
theorem One.kept {w' : World} (H : One w B bb v key m u) (k : w.grownBy w' none) : One w' B bb v key m u := Bk.kept H k
theorem One.bd (H : One w B bb v key m u) : 0 ≤ m ∧ m < 9223372036854775808 ∧ 0 ≤ u ∧ u < 9223372036854775808 := Bk.bd H 0 (by decide)
theorem upd_one (m x : Int) (j : Nat) (hj : j < 1) : upd (fun _ => m) 0 x j = x := by
  obtain rfl : j = 0 := by omega
  rfl

theorem one_limit0 (x : Int) (H : Bk w B bb v 0 K M U) (hx : x < 9223372036854775808) (key : Int) :
    Calls Try.prog 21 #[.pointer (some ⟨bb, 0, none⟩), kv key, .int .i64 x] w fun e w' => (∃ y, e = .returned y) ∧ Off bb v.ownBlock w w' ∧ ∃ v', (v'.ownBlock = v.ownBlock ∨ ∃ r, v'.ownBlock = some r ∧ w.heap.size ≤ r) ∧ One w' B bb v' key (max x 0) 0 :=
  (limit_end key x H (fun p h => absurd h (by omega)) (by omega) hx).mono fun e w' ⟨he, ho, v', hv, hb⟩ => ⟨he, ho, v', hv, Bk.congr hb (fun j hj => by
    obtain rfl : j = 0 := by omega
    simp [insK])⟩
theorem one_limit (x : Int) (H : One w B bb v key m u) (hx : x < 9223372036854775808) :
    Calls Try.prog 21 #[.pointer (some ⟨bb, 0, none⟩), kv key, .int .i64 x] w fun e w' => (∃ y, e = .returned y) ∧ Off bb v.ownBlock w w' ∧ One w' B bb v key (max x 0) u :=
  (limit_old key 0 x H (known_one key) hx).mono fun e w' ⟨he, ho, hb⟩ => ⟨he, ho, Bk.congr hb (fun j hj => ⟨rfl, upd_one _ _ j hj, rfl⟩)⟩
theorem one_take (x : Int) (H : One w B bb v key m u) (h0 : 0 ≤ x) (h1 : x ≤ m - u) :
    Calls Try.prog 22 #[.pointer (some ⟨bb, 0, none⟩), kv key, .int .i64 x] w fun e w' => e = .returned (.bool true) ∧ Off bb v.ownBlock w w' ∧ One w' B bb v key m (u + x) :=
  (take_ok key 0 x H (known_one key) h0 h1).mono fun e w' ⟨he, ho, hb⟩ => ⟨he, ho, Bk.congr hb (fun j hj => ⟨rfl, rfl, upd_one _ _ j hj⟩)⟩
theorem one_take_no (x : Int) (H : One w B bb v key m u) (h1 : x < 0 ∨ m - u < x) :
    Calls Try.prog 22 #[.pointer (some ⟨bb, 0, none⟩), kv key, .int .i64 x] w fun e w' => e = .returned (.bool false) ∧ w.grownBy w' none :=
  take_no key 0 x H (known_one key) h1
theorem one_take_un (k2 : Int) (x : Int) (H : One w B bb v key m u) (h1 : keq key k2 = false) :
    Calls Try.prog 22 #[.pointer (some ⟨bb, 0, none⟩), kv k2, .int .i64 x] w fun e w' => e = .returned (.bool false) ∧ w.grownBy w' none :=
  take_un k2 x H (fun _ _ => h1)
theorem one_give (x : Int) (H : One w B bb v key m u) (h0 : 0 ≤ x) (h1 : x ≤ u) :
    Calls Try.prog 23 #[.pointer (some ⟨bb, 0, none⟩), kv key, .int .i64 x] w fun e w' => e = .returned (.bool true) ∧ Off bb v.ownBlock w w' ∧ One w' B bb v key m (u - x) :=
  (give_ok key 0 x H (known_one key) h0 h1).mono fun e w' ⟨he, ho, hb⟩ => ⟨he, ho, Bk.congr hb (fun j hj => ⟨rfl, rfl, upd_one _ _ j hj⟩)⟩
theorem one_give_no (x : Int) (H : One w B bb v key m u) (h1 : x < 0 ∨ u < x) :
    Calls Try.prog 23 #[.pointer (some ⟨bb, 0, none⟩), kv key, .int .i64 x] w fun e w' => e = .returned (.bool false) ∧ w.grownBy w' none :=
  give_no key 0 x H (known_one key) h1
theorem one_take_any (x : Int) (H : One w B bb v key m u) :
    Calls Try.prog 22 #[.pointer (some ⟨bb, 0, none⟩), kv key, .int .i64 x] w fun e w' => e = .returned (.bool (decide (0 ≤ x ∧ x ≤ m - u))) ∧ Off bb v.ownBlock w w' ∧ One w' B bb v key m (if 0 ≤ x ∧ x ≤ m - u then u + x else u) := by
  by_cases h : 0 ≤ x ∧ x ≤ m - u
  · refine (one_take x H h.1 h.2).mono fun e w' ⟨he, ho, hb⟩ => ⟨by rw [he]; simp [h], ho, ?_⟩
    rw [if_pos h]; exact hb
  · refine (one_take_no x H (by omega)).mono fun e w' ⟨he, hg⟩ => ⟨by rw [he]; simp only [h, decide_false], Off.of_none hg, ?_⟩
    rw [if_neg h]; exact H.kept hg
theorem one_give_any (x : Int) (H : One w B bb v key m u) :
    Calls Try.prog 23 #[.pointer (some ⟨bb, 0, none⟩), kv key, .int .i64 x] w fun e w' => e = .returned (.bool (decide (0 ≤ x ∧ x ≤ u))) ∧ Off bb v.ownBlock w w' ∧ One w' B bb v key m (if 0 ≤ x ∧ x ≤ u then u - x else u) := by
  by_cases h : 0 ≤ x ∧ x ≤ u
  · refine (one_give x H h.1 h.2).mono fun e w' ⟨he, ho, hb⟩ => ⟨by rw [he]; simp [h], ho, ?_⟩
    rw [if_pos h]; exact hb
  · refine (one_give_no x H (by omega)).mono fun e w' ⟨he, hg⟩ => ⟨by rw [he]; simp only [h, decide_false], Off.of_none hg, ?_⟩
    rw [if_neg h]; exact H.kept hg
theorem one_used (H : One w B bb v key m u) :
    Calls Try.prog 25 #[.pointer (some ⟨bb, 0, none⟩), kv key] w fun e w' => e = .returned (.int .i64 u) ∧ w.grownBy w' none :=
  used_in key 0 H (known_one key)
theorem one_left (H : One w B bb v key m u) :
    Calls Try.prog 24 #[.pointer (some ⟨bb, 0, none⟩), kv key] w fun e w' => e = .returned (.int .i64 (max (m - u) 0)) ∧ w.grownBy w' none :=
  left_in key 0 H (known_one key)
end
end Go.Proofs.Ytchookgdajkipaa.LI
