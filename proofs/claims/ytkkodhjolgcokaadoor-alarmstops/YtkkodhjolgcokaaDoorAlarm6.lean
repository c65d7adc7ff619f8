/-
  A book of at most two timers; each call on a timer that there is.
-/
import Derived.Test.YtkkodhjolgcokaaDoorAlarm5
import Derived.Test.YtkkodhjolgcokaaDoorTabOf
namespace Go.Proofs.YtkkodhjolgcokaaDoor
open Go.RowKit Go.Lib

/-- Two timers. -/
def two (a b : Ti) : Nat → Ti := fun k => if k = 0 then a else if k = 1 then b else Ti.none
theorem two_none : (fun _ => Ti.none) = two Ti.none Ti.none := by funext k; unfold two; split; · rfl
                                                                  split <;> rfl
theorem two_up0 (a b x : Ti) : upV (two a b) 0 x = two x b := by
  funext k
  by_cases e : k = 0
  · subst e; rw [upV_same]; rfl
  · rw [upV_other _ _ _ _ e]; unfold two; rw [if_neg e, if_neg e]
theorem two_up1 (a b x : Ti) : upV (two a b) 1 x = two a x := by
  funext k
  by_cases e : k = 1
  · subst e; rw [upV_same]; rfl
  · rw [upV_other _ _ _ _ e]; unfold two; rw [if_neg e, if_neg e]
theorem two_0 (a b : Ti) : two a b 0 = a := rfl
theorem two_1 (a b : Ti) : two a b 1 = b := rfl
theorem two_far (a b : Ti) (k : Nat) (h : 2 ≤ k) : two a b k = Ti.none := by unfold two; rw [if_neg (by omega), if_neg (by omega)]
theorem two_due (a b : Ti) (R : List Nat) (h : ∀ k, k ∈ R → k < 2) : dueT (two a b) R = two (if 0 ∈ R then a.due else a) (if 1 ∈ R then b.due else b) := by
  funext k
  unfold dueT
  match k with
  | 0 => rw [two_0, two_0]
  | 1 => rw [two_1, two_1]
  | k + 2 => rw [if_neg (fun x => absurd (h _ x) (by omega)), two_far _ _ _ (by omega), two_far _ _ _ (by omega)]
theorem two_lt (a b : Ti) (R : List Nat) (t : Nat) (h : ∀ k, k ∈ R ↔ (two a b k).st = 1 ∧ (two a b k).t ≤ t) (k : Nat) (hk : k ∈ R) : k < 2 := by
  rcases Nat.lt_or_ge k 2 with h1 | h1
  · exact h1
  · have := ((h k).1 hk).1
    rw [two_far _ _ _ h1] at this
    cases this

section
variable {w w' : World} {lo hi bb n now tu : Nat} {T : Nat → Ti}
theorem bo_look_in (p : Nat) (H : Bo w lo hi bb n now tu T) :
    Calls Tryd.prog 12 #[.pointer (some ⟨bb, 0, none⟩), .int .i64 p] w fun e w' => e = .returned (.tuple #[.agg #[.int .i64 ((T p).st : Nat), .int .u64 ((T p).h : Nat), .int .u64 ((T p).t : Nat), .int .u64 ((T p).p : Nat)], .bool (T p).is]) ∧ w.grownBy w' none := by
  have h := bo_look (p : Int) H
  rw [atT_nat] at h
  exact h
theorem bo_free_in (p : Nat) (H : Bo w lo hi bb n now tu T) :
    Calls Tryd.prog 17 #[.pointer (some ⟨bb, 0, none⟩), .int .i64 p] w fun e w' => e = .returned (.bool (T p).is) ∧ Only lo hi w w' ∧ Bo w' lo hi bb n now tu (upV T p Ti.none) := by
  have h := bo_free (p : Int) H
  rw [atT_nat, upT_nat] at h
  exact h
theorem bo_arm_in (p hd t pe : Nat) (H : Bo w lo hi bb n now tu T) (his : (T p).is = true) (bh : hd < 18446744073709551616) (bt : t < 18446744073709551616) (bp : pe < 18446744073709551616) (htu : tu + 1 < 18446744073709551616) :
    Calls Tryd.prog 10 #[.pointer (some ⟨bb, 0, none⟩), .int .i64 p, .int .u64 (hd : Nat), .int .u64 (t : Nat), .int .u64 (pe : Nat)] w fun e w' => e = .returned (.bool true) ∧ Only lo hi w w' ∧ Bo w' lo hi bb n now (tu + 1) (upV T p ⟨true, 1, hd, t, pe, tu⟩) := by
  have h := bo_arm (p : Int) hd t pe H bh bt bp htu
  rw [atT_nat, upT_nat, if_pos his, if_pos his, his] at h
  exact h
theorem bo_stop_in (p : Nat) (H : Bo w lo hi bb n now tu T) (hst : (T p).st ≠ 0) :
    Calls Tryd.prog 16 #[.pointer (some ⟨bb, 0, none⟩), .int .i64 p] w fun e w' => e = .returned (.bool true) ∧ Only lo hi w w' ∧ Bo w' lo hi bb n now tu (upV T p Ti.idle) := by
  have h := bo_stop (p : Int) H
  rw [atT_nat, upT_nat, if_pos hst, decide_eq_true hst] at h
  exact h
theorem bo_stop_no (p : Nat) (H : Bo w lo hi bb n now tu T) (hst : (T p).st = 0) :
    Calls Tryd.prog 16 #[.pointer (some ⟨bb, 0, none⟩), .int .i64 p] w fun e w' => e = .returned (.bool false) ∧ Only lo hi w w' ∧ Bo w' lo hi bb n now tu T := by
  have h := bo_stop (p : Int) H
  have hn : ¬ (T p).st ≠ 0 := fun x => x hst
  rw [atT_nat, if_neg hn, decide_eq_false hn] at h
  exact h
theorem bo_sent_in (p s : Nat) (H : Bo w lo hi bb n now tu T) (bs : s < 18446744073709551616) (htu : tu + 1 < 18446744073709551616) :
    Calls Tryd.prog 13 #[.pointer (some ⟨bb, 0, none⟩), .int .i64 p, .int .u64 (s : Nat)] w fun e w' => e = .returned (.int .u64 (sentV (T p) s : Nat)) ∧ Only lo hi w w' ∧ Bo w' lo hi bb n now (sentU (T p) s tu) (upV T p (sentX (T p) s tu)) := by
  have h := bo_sent (p : Int) s H bs htu
  rw [atT_nat, upT_nat] at h
  exact h
end
theorem sent_not (x : Ti) (s u : Nat) (h : x.st ≠ 2) : sentV x s = 0 ∧ sentX x s u = x ∧ sentU x s u = u := by
  simp [sentV, sentX, sentU, h]
theorem sent_one (x : Ti) (s u : Nat) (h : x.st = 2) (ho : overT x s) : sentV x s = 1 ∧ sentX x s u = Ti.idle ∧ sentU x s u = u := by
  simp [sentV, sentX, sentU, h, ho]
theorem sent_more (x : Ti) (s u : Nat) (h : x.st = 2) (ho : ¬ overT x s) : sentV x s = turnsN x.t x.p s ∧ sentX x s u = ⟨true, 1, x.h, x.t + turnsN x.t x.p s * x.p, x.p, u⟩ ∧ sentU x s u = u + 1 := by
  simp [sentV, sentX, sentU, h, ho]
theorem list_one {R : List Nat} {a : Nat} (hn : R.Nodup) (hm : ∀ k, k ∈ R ↔ k = a) : R = [a] := by
  match R, hn, hm with
  | [], _, hm => exact absurd ((hm a).2 rfl) (by simp)
  | [x], _, hm => rw [(hm x).1 (by simp)]
  | x :: y :: l, hn, hm =>
    have h1 := (hm x).1 (by simp)
    have h2 := (hm y).1 (by simp)
    subst h1
    subst h2
    simp at hn
theorem list_two {R : List Nat} {a b : Nat} (hab : a ≠ b) (hn : R.Nodup) (hm : ∀ k, k ∈ R ↔ k = a ∨ k = b) {P : Nat → Nat → Prop} (hp : R.Pairwise P) (hno : ¬ P b a) : R = [a, b] := by
  match R, hn, hm, hp with
  | [], _, hm, _ => exact absurd ((hm a).2 (Or.inl rfl)) (by simp)
  | [x], _, hm, _ =>
    have h1 := (hm a).2 (Or.inl rfl)
    have h2 := (hm b).2 (Or.inr rfl)
    simp at h1 h2
    omega
  | [x, y], hn, hm, hp =>
    have h1 := (hm x).1 (by simp)
    have h2 := (hm y).1 (by simp)
    have hne : x ≠ y := by simpa using hn
    have hxy : P x y := by simpa using hp
    rcases h1 with rfl | rfl <;> rcases h2 with rfl | rfl
    · exact absurd rfl hne
    · rfl
    · exact absurd hxy hno
    · exact absurd rfl hne
  | x :: y :: z :: l, hn, hm, _ =>
    have h1 := (hm x).1 (by simp)
    have h2 := (hm y).1 (by simp)
    have h3 := (hm z).1 (by simp)
    simp at hn
    omega
end Go.Proofs.YtkkodhjolgcokaaDoor
