/-
  Contracts of package ledger, over this seat's translation, for a book of texts: find.
-/
import Derived.Test.YtchookgdajkipaaLedS
namespace Go.Proofs.Ytchookgdajkipaa.LS
open Go.RowKit Go.Lib
set_option maxRecDepth 100000

/-- Where a key is, or would be. -/
structure Spot (K : Nat → ByteArray) (n : Nat) (key : ByteArray) (i : Nat) (ok : Bool) : Prop where
  le : i ≤ n
  lo : ∀ j, j < i → klt (K j) key = true
  hi : ∀ j, i ≤ j → j < n → klt (K j) key = false
  eq : ok = (decide (i < n) && keq (K i) key)

section
variable {w : World} {B bb n : Nat} {v : Value} {K : Nat → ByteArray} {M U : Nat → Int}
theorem Bk.form (H : Bk w B bb v n K M U) : ∃ a cap, v = .slice a n cap := by
  rcases H.own.2 with ⟨h, h2⟩ | ⟨g, cap, cur, h, _⟩
  · exact ⟨none, 0, by rw [h, h2]⟩
  · exact ⟨_, cap, h⟩

set_option maxRecDepth 100000 in
set_option maxHeartbeats 4000000 in
theorem bs_any (key : ByteArray) (H : Bk w B bb v n K M U) :
    Calls Try.prog 32 #[v, kv key, .func (.func 33) #[] #[]] w fun e w' => ∃ (i : Nat) (ok : Bool), e = .returned (.tuple #[.int .i64 i, .bool ok]) ∧ w.grownBy w' none ∧ Spot K n key i ok := by
  obtain ⟨a, cap, rfl⟩ := H.form
  have hn := H.hn
  have HR : Hid (∀ (wr : World) (j : Nat), w.grownBy wr none → j < n → ∃ r, a = some ⟨r, 0, none⟩ ∧ wr.cell? ⟨r, j * 3, none⟩ = some (kv (K j)) ∧ wr.cell? ⟨r, j * 3 + 1, none⟩ = some (.int .i64 (M j)) ∧ wr.cell? ⟨r, j * 3 + 2, none⟩ = some (.int .i64 (U j))) := Lib.hid fun wr j hg hj => by
    obtain ⟨r, c2, e, _, _, _, h⟩ := (H.kept hg).row (by omega)
    obtain ⟨h1, h2, h3, _⟩ := h j hj
    cases e
    exact ⟨r, rfl, h1, h2, h3⟩
  have HS : Hid (∀ i j, i ≤ j → j < n → klt (K j) key = true → klt (K i) key = true) := Lib.hid fun i j hij hj h => by
    by_cases e : i = j
    · subst e; exact h
    · exact klt_trans (H.srt i j (by omega) hj) h
  have CF := Lib.hid (fun (k : ByteArray) (m u : Int) (v : World) => f1_any k key m u v)
  clear H
  unfold kv at *
  go_enter Try.func32, Try.ntmps32
  go_wp2_with fail
  go_loopw [9, 10] (fun lv hv wr => ∃ lo hi : Nat, lo ≤ hi ∧ hi ≤ n ∧ lv = .int .i64 lo ∧ hv = .int .i64 hi ∧ Hid (∀ j, j < lo → klt (K j) key = true) ∧ Hid (∀ j, hi ≤ j → j < n → klt (K j) key = false) ∧ w.grownBy wr none) (fun lv hv _ => (Go.RowKit.intOf hv).toNat - (Go.RowKit.intOf lv).toNat)
  case atStart => exact ⟨0, n, by omega, Nat.le_refl _, rfl, rfl, Lib.hid fun j h => absurd h (by omega), Lib.hid fun j h1 h2 => absurd h1 (by omega), ⟨rfl, rfl, rfl, Nat.le_refl _, fun _ _ _ => rfl⟩⟩
  case round =>
    obtain ⟨lo, hi, h1, h2, rfl, rfl, hL, hH, hG⟩ := hrel
    by_cases hlt : lo < hi
    · have q1 : (lo : Int) < (hi : Int) := by omega
      have q2 : ((lo : Int) + (hi : Int)) / 2 = (((lo + hi) / 2 : Nat) : Int) := by omega
      obtain ⟨r, rfl, c0, c1, c2⟩ := HR.out wr ((lo + hi) / 2) hG (by omega)
      have q3 : lo ≤ (lo + hi) / 2 ∧ (lo + hi) / 2 < hi := by omega
      generalize (lo + hi) / 2 = m at *
      have q4 : (m : Int) < (n : Int) := by omega
      have C := CF.out (K m) (M m) (U m) wr
      cases hk : klt (K m) key with
      | true =>
        have e : cmpOf (K m) key = -1 := by simp [cmpOf, hk]
        rw [e] at C
        have CC := Lib.hid C
        clear C e
        go_wp2_with fail
        refine CC.out.mono ?_
        rintro e w1 ⟨rfl, k1⟩
        go_wp2
        go_roundw
        case rel => exact ⟨m + 1, hi, by omega, h2, by go_num, rfl, Lib.hid fun j hj => HS.out j m (by omega) (by omega) hk, hH, hG.trans k1⟩
        case measure => simp [Go.RowKit.intOf]; omega
      | false =>
        obtain ⟨c, e, hc⟩ : ∃ c, cmpOf (K m) key = c ∧ 0 ≤ c := ⟨_, rfl, by unfold cmpOf; rw [hk]; split <;> simp_all <;> split <;> omega⟩
        rw [e] at C
        have CC := Lib.hid C
        clear C e
        have hc' : ¬ c < 0 := by omega
        go_wp2_with fail
        refine CC.out.mono ?_
        rintro e w1 ⟨rfl, k1⟩
        go_wp2
        go_roundw
        case rel => exact ⟨lo, m, by omega, by omega, rfl, rfl, hL, Lib.hid (fun j hj1 hj2 => (by
          cases h : klt (K j) key with
          | false => rfl
          | true => rw [HS.out m j hj1 hj2 h] at hk; cases hk)), hG.trans k1⟩
        case measure => simp [Go.RowKit.intOf]; omega
    · obtain rfl : lo = hi := by omega
      by_cases hln : lo < n
      · have q1 : (lo : Int) < (n : Int) := by omega
        obtain ⟨r, rfl, c0, c1, c2⟩ := HR.out wr lo hG hln
        have C := CF.out (K lo) (M lo) (U lo) wr
        have hk := hH.out lo (Nat.le_refl _) hln
        cases hq : keq (K lo) key with
        | true =>
          have e : cmpOf (K lo) key = 0 := by simp [cmpOf, hk, hq]
          rw [e] at C
          have CC := Lib.hid C
          clear C e
          go_wp2_with fail
          refine CC.out.mono ?_
          rintro e w1 ⟨rfl, k1⟩
          go_wp2
          go_ret2
          exact ⟨lo, true, rfl, hG.trans k1, by omega, hL.out, hH.out, by simp [hln, hq]⟩
        | false =>
          have e : cmpOf (K lo) key = 1 := by simp [cmpOf, hk, hq]
          rw [e] at C
          have CC := Lib.hid C
          clear C e
          go_wp2_with fail
          refine CC.out.mono ?_
          rintro e w1 ⟨rfl, k1⟩
          go_wp2
          go_ret2
          exact ⟨lo, false, rfl, hG.trans k1, by omega, hL.out, hH.out, by simp [hq]⟩
      · obtain rfl : lo = n := by omega
        go_wp2
        go_ret2
        exact ⟨lo, false, rfl, hG, by omega, hL.out, hH.out, by simp⟩

theorem find_any (key : ByteArray) (H : Bk w B bb v n K M U) :
    Calls Try.prog 27 #[.pointer (some ⟨bb, 0, none⟩), kv key] w fun e w' => ∃ (i : Nat) (ok : Bool), e = .returned (.tuple #[.int .i64 i, .bool ok]) ∧ w.grownBy w' none ∧ Spot K n key i ok := by
  have c0 := H.c0
  have C := Lib.hid (bs_any key H)
  clear H
  unfold kv at *
  go_enter Try.func27, Try.ntmps27
  go_wp2_with fail
  refine C.out.mono ?_
  rintro e w1 ⟨i, ok, rfl, k1, hs⟩
  go_wp2
  go_ret2
  exact ⟨i, ok, rfl, k1, hs⟩

theorem Spot.uniq {i : Nat} {ok : Bool} {key : ByteArray} (H : Spot K n key i ok) {p : Nat} (hp : p < n) (hk : keq (K p) key = true) (hs : ∀ i j, i < j → j < n → klt (K i) (K j) = true) (hl : ∀ a b : ByteArray, keq a b = true → klt a b = false ∧ ∀ c, klt c a = klt c b) : i = p ∧ ok = true := by
  have h1 : ¬ p < i := fun h => by have := H.lo p h; rw [(hl _ _ hk).1] at this; cases this
  have h2 : ¬ i < p := fun h => by
    have := H.hi i (Nat.le_refl _) (by omega)
    rw [← (hl _ _ hk).2, hs i p h hp] at this
    cases this
  obtain rfl : i = p := by omega
  exact ⟨rfl, by rw [H.eq, hk]; simp [hp]⟩
end
end Go.Proofs.Ytchookgdajkipaa.LS
