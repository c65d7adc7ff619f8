/-
  What a table's Mint and Revoke do, as functions of its places; two tables in one slab. Over this seat's translation.
-/
import Derived.Test.YtbkjdbimkofceaaDoorAlive5
namespace Go.Proofs.YtbkjdbimkofceaaDoor
open Go.RowKit Go.Lib

open Classical in
/-- The first place that is not taken. -/
noncomputable def firstP (S : Nat → Bool) (n : Nat) : Option Nat := if h : ∃ p, p < n ∧ S p = false ∧ ∀ q, q < p → S q = true then some (Classical.choose h) else none
theorem first_at {S : Nat → Bool} {n p : Nat} (h : firstP S n = some p) : p < n ∧ S p = false ∧ ∀ q, q < p → S q = true := by
  unfold firstP at h
  split at h
  · rename_i hx
    cases h
    exact Classical.choose_spec hx
  · cases h
theorem first_no {S : Nat → Bool} {n : Nat} (h : firstP S n = none) : ∀ q, q < n → S q = true := by
  unfold firstP at h
  split at h
  · cases h
  · rename_i hx
    have key : ∀ m, m ≤ n → ∀ q, q < m → S q = true := by
      intro m
      induction m with
      | zero => exact fun _ q hq => absurd hq (Nat.not_lt_zero q)
      | succ m ih =>
        intro hm q hq
        have ih' := ih (by omega)
        by_cases e : q = m
        · subst e
          cases es : S q
          · exact absurd ⟨q, by omega, es, ih'⟩ hx
          · rfl
        · exact ih' q (by omega)
    exact key n (Nat.le_refl n)
open Classical in
/-- The place of a handle that is out. -/
noncomputable def findP (T : Nat → Pl) (n h : Nat) : Option Nat := if x : ∃ p, p < n ∧ (T p).out = true ∧ hbits p (T p).gen (T p).r = h then some (Classical.choose x) else none
theorem find_at {T : Nat → Pl} {n h p : Nat} (x : findP T n h = some p) : p < n ∧ (T p).out = true ∧ hbits p (T p).gen (T p).r = h := by
  unfold findP at x
  split at x
  · rename_i hx
    cases x
    exact Classical.choose_spec hx
  · cases x
theorem find_no {T : Nat → Pl} {n h : Nat} (x : findP T n h = none) : ∀ p, p < n → (T p).out = true → hbits p (T p).gen (T p).r ≠ h := by
  unfold findP at x
  split at x
  · cases x
  · rename_i hx
    exact fun p hp ho e => hx ⟨p, hp, ho, e⟩

/-- Behind Mint: the places, the handle, the error's number. -/
noncomputable def mintT (T : Nat → Pl) (G n : Nat) (k i r : Int) : Nat → Pl := match firstP (fun q => (T q).full G) n with | some p => upV T p ((T p).mint k i r) | none => T
noncomputable def mintH (T : Nat → Pl) (G n : Nat) (r : Int) : Nat := match firstP (fun q => (T q).full G) n with | some p => hbits p ((T p).gen + 1) (r % 256).toNat | none => 0
noncomputable def mintE (T : Nat → Pl) (G n : Nat) : Nat := match firstP (fun q => (T q).full G) n with | some _ => 0 | none => 4
/-- Behind Revoke: the places, the error's number. -/
noncomputable def revT (T : Nat → Pl) (n h : Nat) : Nat → Pl := match findP T n h with | some p => upV T p (T p).drop | none => T
noncomputable def revE (T : Nat → Pl) (n h : Nat) : Nat := match findP T n h with | some _ => 0 | none => 5

section
variable {w : World} {lo hi tb n G : Nat} {T : Nat → Pl}
theorem rmint (k i r : Int) (H : Tb w lo hi tb n G T) (hT : TabAt w) :
    Calls Tryd.prog 9 #[.pointer (some ⟨tb, 0, none⟩), .agg #[.int .i64 k, .int .i64 i, .int .i64 r]] w fun e w' => e = .returned (.tuple #[.int .u64 (mintH T G n r : Nat), .int .i64 (mintE T G n : Nat)]) ∧ Only lo hi w w' ∧ Tb w' lo hi tb n G (mintT T G n k i r) := by
  unfold mintH mintE mintT
  cases e : firstP (fun q => (T q).full G) n with
  | some p =>
    obtain ⟨hp, hf, hl⟩ := first_at e
    have h1 : (T p).out = false := by cases h : (T p).out <;> simp [Pl.full, h] at hf ⊢
    have h2 : (T p).gen < G := by simp [Pl.full, h1] at hf; omega
    exact tmint_ok p k i r H hT hp h1 h2 hl
  | none => exact (tmint_no k i r H hT (first_no e)).mono fun e w' ⟨he, hg⟩ => ⟨he, Only.of_none hg, H.grown hg⟩
theorem rrev (h : Nat) (H : Tb w lo hi tb n G T) (hh : h < 18446744073709551616) :
    Calls Tryd.prog 12 #[.pointer (some ⟨tb, 0, none⟩), .int .u64 (h : Nat)] w fun x w' => x = .returned (.int .i64 (revE T n h : Nat)) ∧ Only lo hi w w' ∧ Tb w' lo hi tb n G (revT T n h) := by
  unfold revE revT
  cases e : findP T n h with
  | some p =>
    obtain ⟨hp, ho, rfl⟩ := find_at e
    exact trev_ok p H hp ho
  | none => exact (trev_no h H hh (find_no e)).mono fun e w' ⟨he, hg⟩ => ⟨he, Only.of_none hg, H.grown hg⟩
end

/-- Two tables in two regions of one slab. -/
structure TwoMem (w : World) (lo hi rb pb n G xb rx xp xs xg xh : Nat) (T : Nat → Pl) (yb ry yp ys yg yh : Nat) (U : Nat → Pl) : Prop where
  x : CapMem w xb rb rx pb xp xs xg xh n G T
  y : CapMem w yb rb ry pb yp ys yg yh n G U
  a1 : xb ≠ yh ∧ xb ≠ yg ∧ xh ≠ yh ∧ xh ≠ yg ∧ xs ≠ yh ∧ xs ≠ yg ∧ xg ≠ yh ∧ xg ≠ yg
  a2 : yb ≠ xh ∧ yb ≠ xg ∧ yh ≠ xh ∧ yh ≠ xg ∧ ys ≠ xh ∧ ys ≠ xg ∧ yg ≠ xh ∧ yg ≠ xg
  a3 : xp + n * 4 ≤ yp ∨ yp + n * 4 ≤ xp
  rg : (lo ≤ xb ∧ xb < hi ∧ lo ≤ xs ∧ xs < hi ∧ lo ≤ xg ∧ xg < hi ∧ lo ≤ xh ∧ xh < hi) ∧ (lo ≤ yb ∧ yb < hi ∧ lo ≤ ys ∧ ys < hi ∧ lo ≤ yg ∧ yg < hi ∧ lo ≤ yh ∧ yh < hi) ∧ lo ≤ rb ∧ rb < hi ∧ lo ≤ pb ∧ pb < hi
  sz : hi ≤ w.heap.size
section
variable {w w' : World} {lo hi rb pb n G xb rx xp xs xg xh yb ry yp ys yg yh : Nat} {T U T' : Nat → Pl}
theorem TwoMem.swap (H : TwoMem w lo hi rb pb n G xb rx xp xs xg xh T yb ry yp ys yg yh U) : TwoMem w lo hi rb pb n G yb ry yp ys yg yh U xb rx xp xs xg xh T :=
  ⟨H.y, H.x, H.a2, H.a1, H.a3.symm, ⟨H.rg.2.1, H.rg.1, H.rg.2.2⟩, H.sz⟩
theorem TwoMem.only {l h : Nat} (H : TwoMem w lo hi rb pb n G xb rx xp xs xg xh T yb ry yp ys yg yh U) (k : Only l h w w') (hd : hi ≤ l ∨ h ≤ lo) : TwoMem w' lo hi rb pb n G xb rx xp xs xg xh T yb ry yp ys yg yh U := by
  obtain ⟨r1, r2, r3⟩ := H.rg
  exact ⟨H.x.only k (by omega) (by omega) (by omega) (by omega) (by omega) (by omega), H.y.only k (by omega) (by omega) (by omega) (by omega) (by omega) (by omega), H.a1, H.a2, H.a3, H.rg, Nat.le_trans H.sz k.size⟩
theorem TwoMem.grown (H : TwoMem w lo hi rb pb n G xb rx xp xs xg xh T yb ry yp ys yg yh U) (k : w.grownBy w' none) : TwoMem w' lo hi rb pb n G xb rx xp xs xg xh T yb ry yp ys yg yh U :=
  H.only (Only.of_none (lo := 0) (hi := 0) k) (Or.inr (Nat.zero_le _))
theorem TwoMem.step (H : TwoMem w lo hi rb pb n G xb rx xp xs xg xh T yb ry yp ys yg yh U) (k : CTouch xh xg pb xp (n * 4) w w') (C : CapMem w' xb rb rx pb xp xs xg xh n G T') : Only lo hi w w' ∧ TwoMem w' lo hi rb pb n G xb rx xp xs xg xh T' yb ry yp ys yg yh U := by
  obtain ⟨r1, r2, r3⟩ := H.rg
  obtain ⟨b1, b2, b3, b4, b5, b6, b7, b8⟩ := H.a2
  obtain ⟨d1, d2, d3, d4, d5, d6, d7⟩ := H.x.d
  obtain ⟨e1, e2, e3, e4, e5⟩ := H.x.reg.d
  exact ⟨k.only (by omega) (by omega) (by omega), C, H.y.touch k ⟨b1, b2⟩ ⟨b3, b4⟩ ⟨by omega, by omega⟩ ⟨b5, b6⟩ ⟨b7, b8⟩ (by have := H.a3; omega), H.a1, H.a2, H.a3, H.rg, Nat.le_trans H.sz k.size⟩
theorem TwoMem.mint (k i r : Int) (H : TwoMem w lo hi rb pb n G xb rx xp xs xg xh T yb ry yp ys yg yh U) (hT : TabAt w) :
    Calls Tryd.prog 9 #[.pointer (some ⟨xb, 0, none⟩), .agg #[.int .i64 k, .int .i64 i, .int .i64 r]] w fun e w' => e = .returned (.tuple #[.int .u64 (mintH T G n r : Nat), .int .i64 (mintE T G n : Nat)]) ∧ Only lo hi w w' ∧ TwoMem w' lo hi rb pb n G xb rx xp xs xg xh (mintT T G n k i r) yb ry yp ys yg yh U := by
  unfold mintH mintE mintT
  cases e : firstP (fun q => (T q).full G) n with
  | some p =>
    obtain ⟨hp, hf, hl⟩ := first_at e
    have h1 : (T p).out = false := by cases h : (T p).out <;> simp [Pl.full, h] at hf ⊢
    have h2 : (T p).gen < G := by simp [Pl.full, h1] at hf; omega
    exact (mint_ok p k i r H.x hT hp h1 h2 hl).mono fun e w' ⟨he, t, c⟩ => ⟨he, H.step t c⟩
  | none => exact (mint_no k i r H.x hT (first_no e)).mono fun e w' ⟨he, hg⟩ => ⟨he, Only.of_none hg, H.grown hg⟩
theorem TwoMem.rev (h : Nat) (H : TwoMem w lo hi rb pb n G xb rx xp xs xg xh T yb ry yp ys yg yh U) (hh : h < 18446744073709551616) :
    Calls Tryd.prog 12 #[.pointer (some ⟨xb, 0, none⟩), .int .u64 (h : Nat)] w fun x w' => x = .returned (.int .i64 (revE T n h : Nat)) ∧ Only lo hi w w' ∧ TwoMem w' lo hi rb pb n G xb rx xp xs xg xh (revT T n h) yb ry yp ys yg yh U := by
  unfold revE revT
  cases e : findP T n h with
  | some p =>
    obtain ⟨hp, ho, rfl⟩ := find_at e
    exact (revoke_ok p H.x hp ho).mono fun e w' ⟨he, t, c⟩ => ⟨he, H.step t c⟩
  | none => exact (revoke_no h H.x hh (find_no e)).mono fun e w' ⟨he, hg⟩ => ⟨he, Only.of_none hg, H.grown hg⟩
end
end Go.Proofs.YtbkjdbimkofceaaDoor
