/-
  A region of ints, told by its range of blocks alone, over this seat's translation: what each call answers and leaves. And counts of sets.
-/
import Derived.Test.YtchookgdajkipaaDoorSlabTop
namespace Go.Proofs.YtchookgdajkipaaDoor
open Go.RowKit Go.Lib

theorem cnt_ins (S : Nat → Bool) (k : Nat) (hS : S k = false) : ∀ n, cnt (ins S k) n = cnt S n + (decide (k < n)).toNat
  | 0 => rfl
  | n + 1 => by
    rw [cnt, cnt, cnt_ins S k hS n]
    by_cases h : n = k
    · subst h
      simp [ins, hS]
    · have e : ins S k n = S n := by simp [ins, h]
      rw [e]
      by_cases h2 : k < n
      · simp [h2, show k < n + 1 by omega]; omega
      · simp [h2, show ¬ k < n + 1 by omega]
theorem cnt_del (S : Nat → Bool) (k : Nat) (hS : S k = true) : ∀ n, cnt (del S k) n + (decide (k < n)).toNat = cnt S n
  | 0 => rfl
  | n + 1 => by
    have ih := cnt_del S k hS n
    rw [cnt, cnt]
    by_cases h : n = k
    · subst h
      simp [del, hS] at ih ⊢
      omega
    · have e : del S k n = S n := by simp [del, h]
      rw [e]
      by_cases h2 : k < n
      · simp [h2, show k < n + 1 by omega] at ih ⊢; omega
      · simp [h2, show ¬ k < n + 1 by omega] at ih ⊢; omega
theorem cnt_gap (S : Nat → Bool) : ∀ n, cnt S n < n → ∃ i, i < n ∧ S i = false
  | 0, h => absurd h (by simp [cnt])
  | n + 1, h => by
    rw [cnt] at h
    cases hS : S n
    · exact ⟨n, by omega, hS⟩
    · rw [hS] at h
      obtain ⟨i, h1, h2⟩ := cnt_gap S n (by simp at h; omega)
      exact ⟨i, by omega, h2⟩
theorem cnt_all (S : Nat → Bool) : ∀ n, (∀ i, i < n → S i = true) → cnt S n = n
  | 0, _ => rfl
  | n + 1, h => by rw [cnt, cnt_all S n fun i hi => h i (by omega), h n (by omega)]; rfl
theorem cnt_none : ∀ n, cnt (fun _ => false) n = 0
  | 0 => rfl
  | n + 1 => by rw [cnt, cnt_none n]; rfl
theorem least_gap (S : Nat → Bool) : ∀ n, (∃ i, i < n ∧ S i = false) → ∃ p, p < n ∧ S p = false ∧ ∀ q, q < p → S q = true
  | 0, ⟨i, h, _⟩ => absurd h (by omega)
  | n + 1, ⟨i, h, hS⟩ => by
    by_cases h2 : ∃ i, i < n ∧ S i = false
    · obtain ⟨p, h3, h4, h5⟩ := least_gap S n h2
      exact ⟨p, by omega, h4, h5⟩
    · have hin : i = n := by
        by_cases e : i = n
        · exact e
        · exact absurd ⟨i, by omega, hS⟩ h2
      subst hin
      refine ⟨i, h, hS, fun q hq => ?_⟩
      cases e : S q
      · exact absurd ⟨q, hq, e⟩ h2
      · rfl
theorem full_or (S : Nat → Bool) (n : Nat) : (∃ p, p < n ∧ S p = false ∧ ∀ q, q < p → S q = true) ∨ (∀ q, q < n → S q = true) := by
  by_cases h : ∃ i, i < n ∧ S i = false
  · exact Or.inl (least_gap S n h)
  · refine Or.inr fun q hq => ?_
    cases e : S q
    · exact absurd ⟨q, hq, e⟩ h
    · rfl

/-- A region: all its blocks lie from lo on, below hi. -/
def RegAt (w : World) (lo hi rb ro n : Nat) (S : Nat → Bool) (V : Nat → Int) : Prop :=
  ∃ pb po b g, SI.RegMem w rb ro pb po b g n S V ∧ lo ≤ rb ∧ rb < hi ∧ lo ≤ pb ∧ pb < hi ∧ lo ≤ b ∧ b < hi ∧ lo ≤ g ∧ g < hi ∧ hi ≤ w.heap.size

theorem regAt_of {w : World} {lo hi sb rb m : Nat} {n : Nat → Nat} {S : Nat → Nat → Bool} {V : Nat → Nat → Int} (H : SI.SlabAt w lo hi sb rb m n S V) (k : Nat) (hk : k < m) : RegAt w lo hi rb (2 * k) (n k) (S k) (V k) := by
  obtain ⟨pb, po, b, g, H⟩ := H
  have h1 := H.r0
  have h2 := H.r1 k hk
  exact ⟨pb, po k, b k, g k, H.reg k hk, by omega, by omega, by omega, by omega, by omega, by omega, by omega, by omega, by omega⟩

section
variable {w : World} {lo hi rb ro n : Nat} {S : Nat → Bool} {V : Nat → Int}
theorem RegAt.hn (H : RegAt w lo hi rb ro n S V) : n ≤ 256 := by
  obtain ⟨pb, po, b, g, H, _⟩ := H
  exact H.hn
theorem RegAt.sz (H : RegAt w lo hi rb ro n S V) : hi ≤ w.heap.size ∧ lo < hi := by
  obtain ⟨pb, po, b, g, _, h1, h2, _, _, _, _, _, _, h⟩ := H
  omega
theorem RegAt.bound (H : RegAt w lo hi rb ro n S V) : ∀ i, n ≤ i → S i = false := by
  obtain ⟨pb, po, b, g, H, _⟩ := H
  exact H.set.bound
theorem RegAt.kept {w' : World} {l h : Nat} (H : RegAt w lo hi rb ro n S V) (k : Only l h w w') (hd : hi ≤ l ∨ h ≤ lo) : RegAt w' lo hi rb ro n S V := by
  obtain ⟨pb, po, b, g, H, h1, h2, h3, h4, h5, h6, h7, h8, h9⟩ := H
  exact ⟨pb, po, b, g, H.only k (by omega) (by omega) (by omega) (by omega), h1, h2, h3, h4, h5, h6, h7, h8, Nat.le_trans h9 k.size⟩
theorem RegAt.grown {w' : World} (H : RegAt w lo hi rb ro n S V) (k : w.grownBy w' none) : RegAt w' lo hi rb ro n S V := H.kept (Only.of_none (lo := 0) (hi := 0) k) (Or.inr (Nat.zero_le _))

theorem r_take (p : Nat) (v : Int) (H : RegAt w lo hi rb ro n S V) (hT : TabAt w) (hp : p < n) (hS : S p = false) (hl : ∀ q, q < p → S q = true) :
    Calls Tryd.prog 40 #[.pointer (some ⟨rb, ro, none⟩), .int .i64 v] w fun e w' => e = .returned (.tuple #[.int .i64 p, .bool true]) ∧ Only lo hi w w' ∧ RegAt w' lo hi rb ro n (ins S p) (upV V p v) := by
  obtain ⟨pb, po, b, g, H, h1, h2, h3, h4, h5, h6, h7, h8, h9⟩ := H
  exact (SI.take_some p v H hT hp hS hl).mono fun e w' ⟨he, T, R⟩ => ⟨he, T.only ⟨h7, h8⟩ ⟨h3, h4⟩, pb, po, b, g, R, h1, h2, h3, h4, h5, h6, h7, h8, Nat.le_trans h9 T.size⟩
theorem r_full (v : Int) (H : RegAt w lo hi rb ro n S V) (hT : TabAt w) (hl : ∀ q, q < n → S q = true) :
    Calls Tryd.prog 40 #[.pointer (some ⟨rb, ro, none⟩), .int .i64 v] w fun e w' => e = .returned (.tuple #[.int .i64 0, .bool false]) ∧ w = w' := by
  obtain ⟨pb, po, b, g, H, _⟩ := H
  exact SI.take_none v H hT hl
theorem r_give (p : Nat) (H : RegAt w lo hi rb ro n S V) (hp : p < n) (hS : S p = true) :
    Calls Tryd.prog 42 #[.pointer (some ⟨rb, ro, none⟩), .int .i64 p] w fun e w' => e = .returned (.bool true) ∧ Only lo hi w w' ∧ RegAt w' lo hi rb ro n (del S p) (upV V p 0) := by
  obtain ⟨pb, po, b, g, H, h1, h2, h3, h4, h5, h6, h7, h8, h9⟩ := H
  exact (SI.give_in p H hp hS).mono fun e w' ⟨he, T, R⟩ => ⟨he, T.only ⟨h7, h8⟩ ⟨h3, h4⟩, pb, po, b, g, R, h1, h2, h3, h4, h5, h6, h7, h8, Nat.le_trans h9 T.size⟩
theorem r_give_no (k : Int) (H : RegAt w lo hi rb ro n S V) (hv : k < 0 ∨ (n : Int) ≤ k ∨ S k.toNat = false) :
    Calls Tryd.prog 42 #[.pointer (some ⟨rb, ro, none⟩), .int .i64 k] w fun e w' => e = .returned (.bool false) ∧ w.grownBy w' none := by
  obtain ⟨pb, po, b, g, H, _⟩ := H
  exact SI.give_no k H hv
theorem r_set (p : Nat) (v : Int) (H : RegAt w lo hi rb ro n S V) (hp : p < n) (hS : S p = true) :
    Calls Tryd.prog 54 #[.pointer (some ⟨rb, ro, none⟩), .int .i64 p, .int .i64 v] w fun e w' => e = .returned (.bool true) ∧ Only lo hi w w' ∧ RegAt w' lo hi rb ro n S (upV V p v) := by
  obtain ⟨pb, po, b, g, H, h1, h2, h3, h4, h5, h6, h7, h8, h9⟩ := H
  exact (SI.set_in p v H hp hS).mono fun e w' ⟨he, T, R⟩ => ⟨he, T.only ⟨h7, h8⟩ ⟨h3, h4⟩, pb, po, b, g, R, h1, h2, h3, h4, h5, h6, h7, h8, Nat.le_trans h9 T.size⟩
theorem r_set_no (k v : Int) (H : RegAt w lo hi rb ro n S V) (hv : k < 0 ∨ (n : Int) ≤ k ∨ S k.toNat = false) :
    Calls Tryd.prog 54 #[.pointer (some ⟨rb, ro, none⟩), .int .i64 k, .int .i64 v] w fun e w' => e = .returned (.bool false) ∧ w.grownBy w' none := by
  obtain ⟨pb, po, b, g, H, _⟩ := H
  exact SI.set_no k v H hv
theorem r_at (p : Nat) (H : RegAt w lo hi rb ro n S V) (hp : p < n) (hS : S p = true) :
    Calls Tryd.prog 41 #[.pointer (some ⟨rb, ro, none⟩), .int .i64 p] w fun e w' => e = .returned (.tuple #[.int .i64 (V p), .bool true]) ∧ w.grownBy w' none := by
  obtain ⟨pb, po, b, g, H, _⟩ := H
  exact SI.at_in p H hp hS
theorem r_at_no (k : Int) (H : RegAt w lo hi rb ro n S V) (hv : k < 0 ∨ (n : Int) ≤ k ∨ S k.toNat = false) :
    Calls Tryd.prog 41 #[.pointer (some ⟨rb, ro, none⟩), .int .i64 k] w fun e w' => e = .returned (.tuple #[.int .i64 0, .bool false]) ∧ w.grownBy w' none := by
  obtain ⟨pb, po, b, g, H, _⟩ := H
  exact SI.at_no k H hv
theorem r_count (c : Nat) (H : RegAt w lo hi rb ro n S V) (hc : cnt S n = c) : Calls Tryd.prog 45 #[.pointer (some ⟨rb, ro, none⟩)] w fun e w' => e = .returned (.int .i64 c) ∧ w = w' := by
  obtain ⟨pb, po, b, g, H, _⟩ := H
  exact hc ▸ SI.count_any H
theorem r_room (H : RegAt w lo hi rb ro n S V) : Calls Tryd.prog 46 #[.pointer (some ⟨rb, ro, none⟩)] w fun e w' => e = .returned (.int .i64 (n : Int)) ∧ w = w' := by
  obtain ⟨pb, po, b, g, H, _⟩ := H
  exact SI.room_any H
theorem r_has (k : Int) (v : Bool) (H : RegAt w lo hi rb ro n S V) (hv : (0 ≤ k ∧ k < n ∧ S k.toNat = v) ∨ ((k < 0 ∨ (n : Int) ≤ k) ∧ v = false)) :
    Calls Tryd.prog 55 #[.pointer (some ⟨rb, ro, none⟩), .int .i64 k] w fun e w' => e = .returned (.bool v) ∧ w.grownBy w' none := by
  obtain ⟨pb, po, b, g, H, _⟩ := H
  exact SI.has_any k v H hv
theorem r_held (H : RegAt w lo hi rb ro n S V) (hT : TabAt w) :
    Calls Tryd.prog 47 #[.pointer (some ⟨rb, ro, none⟩)] w fun e w' => ∃ r cp, e = .returned (.slice (some ⟨r, 0, none⟩) (SI.mems S n).length cp) ∧ w.grownBy w' none ∧ RowOf w' w.heap.size r cp (SI.mems S n) := by
  obtain ⟨pb, po, b, g, H, _⟩ := H
  exact SI.held_any H hT
end
end Go.Proofs.YtchookgdajkipaaDoor
