/-
  A book of timers as one object: all its blocks lie in a range; each of its calls as a function of what it holds.
-/
import Derived.Test.YtkkodhjolgcokaaDoorAlarm4
namespace Go.Proofs.YtkkodhjolgcokaaDoor
open Go.RowKit Go.Lib

/-- A book in block bb; all its blocks lie from lo on, below hi. -/
def Bo (w : World) (lo hi bb n now tu : Nat) (T : Nat → Ti) : Prop :=
  ∃ rb ro pb po b g l h wb, BkMem w bb rb ro pb po b g l h wb n now tu T ∧ (lo ≤ bb ∧ bb < hi ∧ lo ≤ rb ∧ rb < hi ∧ lo ≤ pb ∧ pb < hi ∧ lo ≤ b ∧ b < hi ∧ lo ≤ g ∧ g < hi ∧ lo ≤ l ∧ h ≤ hi) ∧ hi ≤ w.heap.size
def atT (T : Nat → Ti) (k : Int) : Ti := if k < 0 then Ti.none else T k.toNat
def upT (T : Nat → Ti) (k : Int) (x : Ti) : Nat → Ti := if k < 0 then T else upV T k.toNat x
theorem atT_nat (T : Nat → Ti) (k : Nat) : atT T (k : Int) = T k := by unfold atT; rw [if_neg (by omega)]; rfl
theorem upT_nat (T : Nat → Ti) (k : Nat) (x : Ti) : upT T (k : Int) x = upV T k x := by unfold upT; rw [if_neg (by omega)]; rfl
theorem upT_self (T : Nat → Ti) (k : Int) : upT T k (atT T k) = T := by
  unfold upT atT
  split
  · rfl
  · exact SA.upV_self T _
/-- Can a timer that is told be set again, and for when? -/
def overT (x : Ti) (s : Nat) : Prop := x.p = 0 ∨ 18446744073709551616 ≤ x.t + turnsN x.t x.p s * x.p
instance (x : Ti) (s : Nat) : Decidable (overT x s) := inferInstanceAs (Decidable (_ ∨ _))
def sentV (x : Ti) (s : Nat) : Nat := if x.st ≠ 2 then 0 else if overT x s then 1 else turnsN x.t x.p s
def sentX (x : Ti) (s u : Nat) : Ti := if x.st ≠ 2 then x else if overT x s then Ti.idle else ⟨true, 1, x.h, x.t + turnsN x.t x.p s * x.p, x.p, u⟩
def sentU (x : Ti) (s u : Nat) : Nat := if x.st ≠ 2 then u else if overT x s then u else u + 1

section
variable {w w' : World} {lo hi bb n now tu : Nat} {T : Nat → Ti}
theorem Bo.kept {l h : Nat} (H : Bo w lo hi bb n now tu T) (k : Only l h w w') (hd : hi ≤ l ∨ h ≤ lo) : Bo w' lo hi bb n now tu T := by
  obtain ⟨rb, ro, pb, po, b, g, l', h', wb, M, r, s⟩ := H
  exact ⟨rb, ro, pb, po, b, g, l', h', wb, ⟨M.m.only k (by omega) (by omega) (by omega) (by omega) (by omega) (by omega), M.ok⟩, r, Nat.le_trans s k.size⟩
theorem Bo.grown (H : Bo w lo hi bb n now tu T) (k : w.grownBy w' none) : Bo w' lo hi bb n now tu T := H.kept (Only.of_none (lo := 0) (hi := 0) k) (Or.inr (Nat.zero_le _))
theorem Bo.sz (H : Bo w lo hi bb n now tu T) : hi ≤ w.heap.size := by
  obtain ⟨rb, ro, pb, po, b, g, l', h', wb, M, r, s⟩ := H
  exact s
theorem Bo.ok (H : Bo w lo hi bb n now tu T) : TiOk n tu T := by
  obtain ⟨rb, ro, pb, po, b, g, l', h', wb, M, r, s⟩ := H
  exact M.ok
theorem Bo.same {T' : Nat → Ti} (H : Bo w lo hi bb n now tu T) (h : T = T') : Bo w lo hi bb n now tu T' := h ▸ H
theorem TiOk.isk (H : TiOk n tu T) {p : Nat} (h : (T p).is = true) : p < n := by
  rcases Nat.lt_or_ge p n with h1 | h1
  · exact h1
  · rw [H.far p h1] at h; cases h

theorem bo_look (k : Int) (H : Bo w lo hi bb n now tu T) :
    Calls Tryd.prog 12 #[.pointer (some ⟨bb, 0, none⟩), .int .i64 k] w fun e w' => e = .returned (.tuple #[(atT T k).row.val, .bool (atT T k).is]) ∧ w.grownBy w' none := by
  have ok := H.ok
  obtain ⟨rb, ro, pb, po, b, g, l', h', wb, M, r, s⟩ := H
  by_cases hk : k < 0
  · have e : atT T k = Ti.none := by unfold atT; rw [if_pos hk]
    rw [e]
    exact bk_look_no k M (Or.inl hk)
  · obtain ⟨p, rfl⟩ := Int.eq_ofNat_of_zero_le (show 0 ≤ k by omega)
    rw [show atT T ((p : Nat) : Int) = T p from atT_nat T p]
    cases h : (T p).is with
    | true => exact bk_look_in p M (ok.isk h) h
    | false =>
      rw [(ok.ok p).off h]
      exact bk_look_no p M (Or.inr h)
theorem bo_count (H : Bo w lo hi bb n now tu T) : Calls Tryd.prog 15 #[.pointer (some ⟨bb, 0, none⟩)] w fun e w' => e = .returned (.int .i64 (cnt (fun k => (T k).is) n : Nat)) ∧ w = w' := by
  obtain ⟨rb, ro, pb, po, b, g, l', h', wb, M, r, s⟩ := H
  exact bk_count M
theorem bo_armed (H : Bo w lo hi bb n now tu T) : Calls Tryd.prog 14 #[.pointer (some ⟨bb, 0, none⟩)] w fun e w' => e = .returned (.int .i64 (setN (onW T) n : Nat)) ∧ w = w' := by
  obtain ⟨rb, ro, pb, po, b, g, l', h', wb, M, r, s⟩ := H
  exact bk_armed M
theorem bo_make_some (p : Nat) (H : Bo w lo hi bb n now tu T) (hT : TabAt w) (hp : p < n) (his : (T p).is = false) (hl : ∀ q, q < p → (T q).is = true) :
    Calls Tryd.prog 9 #[.pointer (some ⟨bb, 0, none⟩)] w fun e w' => e = .returned (.tuple #[.int .i64 p, .bool true]) ∧ Only lo hi w w' ∧ Bo w' lo hi bb n now tu (upV T p Ti.idle) := by
  obtain ⟨rb, ro, pb, po, b, g, l', h', wb, M, r, s⟩ := H
  exact (bk_make_some p M hT hp his hl).mono fun e w' ⟨he, t, c⟩ => ⟨he, t.only (by omega) (by omega) (by omega) (by omega), rb, ro, pb, po, b, g, l', h', wb, c, r, Nat.le_trans s t.size⟩
theorem bo_make_none (H : Bo w lo hi bb n now tu T) (hT : TabAt w) (hl : ∀ q, q < n → (T q).is = true) :
    Calls Tryd.prog 9 #[.pointer (some ⟨bb, 0, none⟩)] w fun e w' => e = .returned (.tuple #[.int .i64 0, .bool false]) ∧ w.grownBy w' none := by
  obtain ⟨rb, ro, pb, po, b, g, l', h', wb, M, r, s⟩ := H
  exact bk_make_none M hT hl
theorem bo_free (k : Int) (H : Bo w lo hi bb n now tu T) :
    Calls Tryd.prog 17 #[.pointer (some ⟨bb, 0, none⟩), .int .i64 k] w fun e w' => e = .returned (.bool (atT T k).is) ∧ Only lo hi w w' ∧ Bo w' lo hi bb n now tu (upT T k Ti.none) := by
  have ok := H.ok
  have HH := H
  obtain ⟨rb, ro, pb, po, b, g, l', h', wb, M, r, s⟩ := H
  by_cases hk : k < 0
  · have e : atT T k = Ti.none := by unfold atT; rw [if_pos hk]
    have e2 : upT T k Ti.none = T := by unfold upT; rw [if_pos hk]
    rw [e, e2]
    exact (bk_free_no k M (Or.inl hk)).mono fun e w' ⟨he, t⟩ => ⟨he, Only.of_none t, HH.grown t⟩
  · obtain ⟨p, rfl⟩ := Int.eq_ofNat_of_zero_le (show 0 ≤ k by omega)
    rw [show atT T ((p : Nat) : Int) = T p from atT_nat T p, show upT T ((p : Nat) : Int) Ti.none = upV T p Ti.none from upT_nat T p _]
    cases h : (T p).is with
    | true => exact (bk_free_in p M (ok.isk h) h).mono fun e w' ⟨he, t, c⟩ => ⟨he, t.only (by omega) (by omega) (by omega) (by omega), rb, ro, pb, po, b, g, l', h', wb, c, r, Nat.le_trans s t.size⟩
    | false =>
      rw [← (ok.ok p).off h, SA.upV_self]
      exact (bk_free_no p M (Or.inr h)).mono fun e w' ⟨he, t⟩ => ⟨he, Only.of_none t, HH.grown t⟩
theorem bo_arm (k : Int) (hd t pe : Nat) (H : Bo w lo hi bb n now tu T) (bh : hd < 18446744073709551616) (bt : t < 18446744073709551616) (bp : pe < 18446744073709551616) (htu : tu + 1 < 18446744073709551616) :
    Calls Tryd.prog 10 #[.pointer (some ⟨bb, 0, none⟩), .int .i64 k, .int .u64 (hd : Nat), .int .u64 (t : Nat), .int .u64 (pe : Nat)] w fun e w' => e = .returned (.bool (atT T k).is) ∧ Only lo hi w w' ∧ Bo w' lo hi bb n now (if (atT T k).is = true then tu + 1 else tu) (if (atT T k).is = true then upT T k ⟨true, 1, hd, t, pe, tu⟩ else T) := by
  have ok := H.ok
  have HH := H
  obtain ⟨rb, ro, pb, po, b, g, l', h', wb, M, r, s⟩ := H
  by_cases hk : k < 0
  · have e : atT T k = Ti.none := by unfold atT; rw [if_pos hk]
    rw [e, if_neg (show ¬ Ti.none.is = true by decide), if_neg (show ¬ Ti.none.is = true by decide)]
    exact (bk_arm_no k hd t pe M (Or.inl hk)).mono fun e w' ⟨he, t⟩ => ⟨he, Only.of_none t, HH.grown t⟩
  · obtain ⟨p, rfl⟩ := Int.eq_ofNat_of_zero_le (show 0 ≤ k by omega)
    rw [show atT T ((p : Nat) : Int) = T p from atT_nat T p, show upT T ((p : Nat) : Int) ⟨true, 1, hd, t, pe, tu⟩ = upV T p ⟨true, 1, hd, t, pe, tu⟩ from upT_nat T p _]
    cases h : (T p).is with
    | true =>
      rw [if_pos rfl, if_pos rfl]
      exact (bk_arm_in p hd t pe M (ok.isk h) h bh bt bp htu).mono fun e w' ⟨he, t, c⟩ => ⟨he, t.only (by omega) (by omega) (by omega) (by omega), rb, ro, pb, po, b, g, l', h', wb, c, r, Nat.le_trans s t.size⟩
    | false =>
      rw [if_neg (by decide), if_neg (by decide)]
      exact (bk_arm_no p hd t pe M (Or.inr h)).mono fun e w' ⟨he, t⟩ => ⟨he, Only.of_none t, HH.grown t⟩
theorem bo_stop (k : Int) (H : Bo w lo hi bb n now tu T) :
    Calls Tryd.prog 16 #[.pointer (some ⟨bb, 0, none⟩), .int .i64 k] w fun e w' => e = .returned (.bool (decide ((atT T k).st ≠ 0))) ∧ Only lo hi w w' ∧ Bo w' lo hi bb n now tu (if (atT T k).st ≠ 0 then upT T k Ti.idle else T) := by
  have ok := H.ok
  have HH := H
  obtain ⟨rb, ro, pb, po, b, g, l', h', wb, M, r, s⟩ := H
  by_cases hk : k < 0
  · have e : atT T k = Ti.none := by unfold atT; rw [if_pos hk]
    rw [e, if_neg (show ¬ Ti.none.st ≠ 0 by decide)]
    exact (bk_stop_no k M (Or.inl hk)).mono fun e w' ⟨he, t⟩ => ⟨he, Only.of_none t, HH.grown t⟩
  · obtain ⟨p, rfl⟩ := Int.eq_ofNat_of_zero_le (show 0 ≤ k by omega)
    rw [show atT T ((p : Nat) : Int) = T p from atT_nat T p, show upT T ((p : Nat) : Int) Ti.idle = upV T p Ti.idle from upT_nat T p _]
    by_cases h : (T p).st = 0
    · rw [if_neg (by simpa using h), show decide ((T p).st ≠ 0) = false by simp [h]]
      exact (bk_stop_no p M (Or.inr (by simpa using h))).mono fun e w' ⟨he, t⟩ => ⟨he, Only.of_none t, HH.grown t⟩
    · rw [if_pos h, show decide ((T p).st ≠ 0) = true by simp [h]]
      exact (bk_stop_in p M (M.isd h).2 h).mono fun e w' ⟨he, t, c⟩ => ⟨he, t.only (by omega) (by omega) (by omega) (by omega), rb, ro, pb, po, b, g, l', h', wb, c, r, Nat.le_trans s t.size⟩
theorem bo_sent (k : Int) (s : Nat) (H : Bo w lo hi bb n now tu T) (bs : s < 18446744073709551616) (htu : tu + 1 < 18446744073709551616) :
    Calls Tryd.prog 13 #[.pointer (some ⟨bb, 0, none⟩), .int .i64 k, .int .u64 (s : Nat)] w fun e w' => e = .returned (.int .u64 (sentV (atT T k) s : Nat)) ∧ Only lo hi w w' ∧ Bo w' lo hi bb n now (sentU (atT T k) s tu) (upT T k (sentX (atT T k) s tu)) := by
  have HH := H
  obtain ⟨rb, ro, pb, po, b, g, l', h', wb, M, r, sz⟩ := H
  by_cases h2 : (atT T k).st = 2
  · have hk : ¬ k < 0 := fun hk => by
      rw [show atT T k = Ti.none by unfold atT; rw [if_pos hk]] at h2; cases h2
    obtain ⟨p, rfl⟩ := Int.eq_ofNat_of_zero_le (show 0 ≤ k by omega)
    rw [show atT T ((p : Nat) : Int) = T p from atT_nat T p] at *
    rw [show upT T ((p : Nat) : Int) (sentX (T p) s tu) = upV T p (sentX (T p) s tu) from upT_nat T p _]
    have e1 : sentV (T p) s = if overT (T p) s then 1 else turnsN (T p).t (T p).p s := by unfold sentV; rw [if_neg (fun h => h h2)]
    have e2 : sentX (T p) s tu = if overT (T p) s then Ti.idle else ⟨true, 1, (T p).h, (T p).t + turnsN (T p).t (T p).p s * (T p).p, (T p).p, tu⟩ := by unfold sentX; rw [if_neg (fun h => h h2)]
    have e3 : sentU (T p) s tu = if overT (T p) s then tu else tu + 1 := by unfold sentU; rw [if_neg (fun h => h h2)]
    rw [e1, e2, e3]
    by_cases ho : overT (T p) s
    · rw [if_pos ho, if_pos ho, if_pos ho]
      exact (bk_sent_once p s M h2 bs ho).mono fun e w' ⟨he, t, c⟩ => ⟨he, t.only (by omega) (by omega) (by omega) (by omega), rb, ro, pb, po, b, g, l', h', wb, c, r, Nat.le_trans sz t.size⟩
    · rw [if_neg ho, if_neg ho, if_neg ho]
      unfold overT at ho
      exact (bk_sent_again p s M h2 bs (by omega) (by omega) htu).mono fun e w' ⟨he, t, c⟩ => ⟨he, t.only (by omega) (by omega) (by omega) (by omega), rb, ro, pb, po, b, g, l', h', wb, c, r, Nat.le_trans sz t.size⟩
  · unfold sentV sentX sentU
    rw [if_pos h2, if_pos h2, if_pos h2, upT_self]
    refine (bk_sent_no k s M ?_).mono fun e w' ⟨he, t⟩ => ⟨he, Only.of_none t, HH.grown t⟩
    by_cases hk : k < 0
    · exact Or.inl hk
    · refine Or.inr ?_
      unfold atT at h2
      rwa [if_neg hk] at h2
theorem bo_to (tg : Nat) (H : Bo w lo hi bb n now tu T) (htg : tg < 18446744073709551616) :
    Calls Tryd.prog 11 #[.pointer (some ⟨bb, 0, none⟩), .int .u64 (tg : Nat)] w fun e w' => ∃ (R : List Nat) (r cp : Nat), e = .returned (.slice (some ⟨r, 0, none⟩) R.length cp) ∧ RowOf w' w.heap.size r cp R ∧ Only lo hi w w' ∧ Bo w' lo hi bb n (max now tg) tu (dueT T R) ∧ R.Nodup ∧ (∀ k, k ∈ R ↔ (T k).st = 1 ∧ (T k).t ≤ max now tg) ∧ R.Pairwise fun a b => (T a).t < (T b).t ∨ (T a).t = (T b).t ∧ (T a).u < (T b).u := by
  obtain ⟨rb, ro, pb, po, b, g, l', h', wb, M, r, s⟩ := H
  exact (bk_to tg M htg).mono fun e w' ⟨R, rr, cp, he, hr, t, c, x⟩ => ⟨R, rr, cp, he, hr, t.only (by omega) (by omega) (by omega) (by omega), ⟨rb, ro, pb, po, b, g, l', h', wb, c, r, Nat.le_trans s t.size⟩, x⟩
end
/-- A new book in a region of a slab in which nothing is taken. -/
theorem bo_new {w : World} {lo hi sb rb m : Nat} {n : Nat → Nat} (k now : Nat) (hnow : now < 18446744073709551616) (hk : k < m) (H : SA.SlabAt w lo hi sb rb m n (fun _ _ => false) (fun _ _ => SA.Pr.none)) :
    Calls Tryd.prog 20 #[.pointer (some ⟨rb, 2 * k, none⟩), .int .u64 (now : Nat)] w fun e w' => ∃ bb, e = .returned (.pointer (some ⟨bb, 0, none⟩)) ∧ w.grownBy w' none ∧ Bo w' lo w'.heap.size bb (n k) now 0 (fun _ => Ti.none) := by
  obtain ⟨pb, po, b, g, H⟩ := H
  obtain ⟨a1, a2, a3, a4, a5, a6, a7⟩ := H.r0
  have r1 := H.r1 k hk
  refine (bk_new now hnow (H.reg k hk)).mono ?_
  rintro e w' ⟨bb, wb, he, hg, h1, h2, C⟩
  have := hg.size
  exact ⟨bb, he, hg, rb, 2 * k, pb, po k, b k, g k, w.heap.size, bb, wb, C, by omega, Nat.le_refl _⟩
end Go.Proofs.YtkkodhjolgcokaaDoor
