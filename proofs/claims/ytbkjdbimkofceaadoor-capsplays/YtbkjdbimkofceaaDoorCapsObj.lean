/-
  A table of handles as one object: all its blocks lie in a range; what each of its calls answers, and leaves.
-/
import Derived.Test.YtbkjdbimkofceaaDoorCapsAll
import Derived.Test.YtbkjdbimkofceaaDoorTabOf
namespace Go.Proofs.YtbkjdbimkofceaaDoor
open Go.RowKit Go.Lib
set_option maxRecDepth 100000

def liveN (T : Nat → Pl) (n : Nat) : Nat := cnt (fun j => (T j).out) n
def deadN (T : Nat → Pl) (G n : Nat) : Nat := cnt (fun j => !(T j).out && decide (G ≤ (T j).gen)) n
theorem full_parts (T : Nat → Pl) (G : Nat) : ∀ n, cnt (fun j => (T j).full G) n = liveN T n + deadN T G n
  | 0 => rfl
  | n + 1 => by
    have ih := full_parts T G n
    unfold liveN deadN at *
    simp only [cnt]
    rw [ih]
    cases h : (T n).out <;> cases h2 : decide (G ≤ (T n).gen) <;> simp [Pl.full, h, h2] <;> omega

section
variable {w w' : World} {tb rb ro pb po b g hb n G : Nat} {T : Nat → Pl}
theorem dead_any (H : CapMem w tb rb ro pb po b g hb n G T) (hT : TabAt w) :
    Calls Tryd.prog 16 #[.pointer (some ⟨tb, 0, none⟩)] w fun e w' => e = .returned (.int .i64 (deadN T G n : Nat)) ∧ w.grownBy w' none := by
  have h := dead_raw H hT
  rw [cnt_pairs] at h
  have e : cnt (fun j => (T j).full G && !decide (0 < ((T j).row).g)) n = deadN T G n := cnt_congr fun j hj => by
    obtain ⟨_, o2, _⟩ := H.ok j hj
    cases ho : (T j).out with
    | false => simp [Pl.full, Pl.row, ho, SR.Pr.none]
    | true => have := o2 ho; simp [Pl.full, Pl.row, ho]; omega
  rw [e] at h
  exact h

set_option maxHeartbeats 1000000 in
theorem ccount_any (H : CapMem w tb rb ro pb po b g hb n G T) (hT : TabAt w) :
    Calls Tryd.prog 15 #[.pointer (some ⟨tb, 0, none⟩)] w fun e w' => e = .returned (.int .i64 (liveN T n : Nat)) ∧ w.grownBy w' none := by
  have hn := H.reg.hn
  have hle := cnt_le (fun j => (T j).full G) n
  have C1 := Lib.hid (SR.count_any H.reg)
  have C2 := Lib.hid (dead_any H hT)
  have hp := full_parts T G n
  generalize cnt (fun j => (T j).full G) n = F at *
  generalize liveN T n = L at *
  generalize deadN T G n = D at *
  subst hp
  have t0 := H.t0
  clear H hT
  have e : ((L + D : Nat) : Int) - (D : Nat) = (L : Nat) := by omega
  go_enter Tryd.func15, Tryd.ntmps15
  go_wp2_with fail
  refine (C1.out).mono ?_
  rintro e w' ⟨rfl, rfl⟩
  go_wp2_with fail
  refine C2.out.mono ?_
  rintro e2 w1 ⟨rfl, k1⟩
  go_wp2
  go_ret
  exact ⟨ret_int (by omega), k1⟩
end

/-- A table in block tb, of n places of G generations; all its blocks lie from lo on, below hi. -/
def Tb (w : World) (lo hi tb n G : Nat) (T : Nat → Pl) : Prop := ∃ rb ro pb po b g hb, CapMem w tb rb ro pb po b g hb n G T ∧ (lo ≤ tb ∧ tb < hi ∧ lo ≤ rb ∧ rb < hi ∧ lo ≤ pb ∧ pb < hi ∧ lo ≤ b ∧ b < hi ∧ lo ≤ g ∧ g < hi ∧ lo ≤ hb ∧ hb < hi) ∧ hi ≤ w.heap.size

section
variable {w w' : World} {lo hi tb n G : Nat} {T : Nat → Pl}
theorem Tb.kept {l h : Nat} (H : Tb w lo hi tb n G T) (k : Only l h w w') (hd : hi ≤ l ∨ h ≤ lo) : Tb w' lo hi tb n G T := by
  obtain ⟨rb, ro, pb, po, b, g, hb, H, r, s⟩ := H
  exact ⟨rb, ro, pb, po, b, g, hb, H.only k (by omega) (by omega) (by omega) (by omega) (by omega) (by omega), r, Nat.le_trans s k.size⟩
theorem Tb.grown (H : Tb w lo hi tb n G T) (k : w.grownBy w' none) : Tb w' lo hi tb n G T := H.kept (Only.of_none (lo := 0) (hi := 0) k) (Or.inr (Nat.zero_le _))
theorem Tb.sz (H : Tb w lo hi tb n G T) : hi ≤ w.heap.size ∧ lo < hi ∧ lo ≤ tb ∧ tb < hi := by
  obtain ⟨rb, ro, pb, po, b, g, hb, H, r, s⟩ := H
  omega
theorem Tb.ok (H : Tb w lo hi tb n G T) : n ≤ 256 ∧ (1 ≤ G ∧ G ≤ 16777215) ∧ ∀ j, j < n → (T j).ok G := by
  obtain ⟨rb, ro, pb, po, b, g, hb, H, r, s⟩ := H
  exact ⟨H.reg.hn, H.hG, H.ok⟩
theorem Tb.same {T' : Nat → Pl} (H : Tb w lo hi tb n G T) (h : T = T') : Tb w lo hi tb n G T' := h ▸ H

theorem tmint_ok (p : Nat) (k i r : Int) (H : Tb w lo hi tb n G T) (hT : TabAt w) (hp : p < n) (h1 : (T p).out = false) (h2 : (T p).gen < G) (hl : ∀ q, q < p → (T q).full G = true) :
    Calls Tryd.prog 9 #[.pointer (some ⟨tb, 0, none⟩), .agg #[.int .i64 k, .int .i64 i, .int .i64 r]] w fun e w' => e = .returned (.tuple #[.int .u64 (hbits p ((T p).gen + 1) (r % 256).toNat : Nat), .int .i64 0]) ∧ Only lo hi w w' ∧ Tb w' lo hi tb n G (upV T p ((T p).mint k i r)) := by
  obtain ⟨rb, ro, pb, po, b, g, hb, H, rr, s⟩ := H
  refine (mint_ok p k i r H hT hp h1 h2 hl).mono fun e w' ⟨he, t, c⟩ => ⟨he, t.only (by omega) (by omega) (by omega), rb, ro, pb, po, b, g, hb, c, rr, Nat.le_trans s t.size⟩
theorem tmint_no (k i r : Int) (H : Tb w lo hi tb n G T) (hT : TabAt w) (hl : ∀ q, q < n → (T q).full G = true) :
    Calls Tryd.prog 9 #[.pointer (some ⟨tb, 0, none⟩), .agg #[.int .i64 k, .int .i64 i, .int .i64 r]] w fun e w' => e = .returned (.tuple #[.int .u64 0, .int .i64 4]) ∧ w.grownBy w' none := by
  obtain ⟨rb, ro, pb, po, b, g, hb, H, rr, s⟩ := H
  exact mint_no k i r H hT hl
theorem tlook_in (p : Nat) (H : Tb w lo hi tb n G T) (hp : p < n) (ho : (T p).out = true) :
    Calls Tryd.prog 14 #[.pointer (some ⟨tb, 0, none⟩), .int .u64 (hbits p (T p).gen (T p).r : Nat)] w fun e w' => e = .returned (.tuple #[.agg #[.int .i64 (T p).k, .int .i64 (T p).i, .int .i64 ((T p).r : Nat)], .int .i64 0]) ∧ w.grownBy w' none := by
  obtain ⟨rb, ro, pb, po, b, g, hb, H, rr, s⟩ := H
  exact look_in p H hp ho
theorem tlook_no (h : Nat) (H : Tb w lo hi tb n G T) (hh : h < 18446744073709551616) (hno : ∀ p, p < n → (T p).out = true → hbits p (T p).gen (T p).r ≠ h) :
    Calls Tryd.prog 14 #[.pointer (some ⟨tb, 0, none⟩), .int .u64 (h : Nat)] w fun e w' => e = .returned (.tuple #[.agg #[.int .i64 0, .int .i64 0, .int .i64 0], .int .i64 5]) ∧ w.grownBy w' none := by
  obtain ⟨rb, ro, pb, po, b, g, hb, H, rr, s⟩ := H
  exact look_no h H hh hno
theorem tneed_in (p : Nat) (kind rights : Int) (H : Tb w lo hi tb n G T) (hp : p < n) (ho : (T p).out = true) :
    Calls Tryd.prog 23 #[.pointer (some ⟨tb, 0, none⟩), .int .u64 (hbits p (T p).gen (T p).r : Nat), .int .i64 kind, .int .i64 rights] w fun x w' => x = .returned (needV 0 (T p).k (T p).i ((T p).r : Nat) kind rights) ∧ w.grownBy w' none := by
  obtain ⟨rb, ro, pb, po, b, g, hb, H, rr, s⟩ := H
  exact need_in p kind rights H hp ho
theorem tneed_no (h : Nat) (kind rights : Int) (H : Tb w lo hi tb n G T) (hh : h < 18446744073709551616) (hno : ∀ p, p < n → (T p).out = true → hbits p (T p).gen (T p).r ≠ h) :
    Calls Tryd.prog 23 #[.pointer (some ⟨tb, 0, none⟩), .int .u64 (h : Nat), .int .i64 kind, .int .i64 rights] w fun x w' => x = .returned (.tuple #[.int .i64 0, .int .i64 5]) ∧ w.grownBy w' none := by
  obtain ⟨rb, ro, pb, po, b, g, hb, H, rr, s⟩ := H
  exact need_no h kind rights H hh hno
theorem trev_no (h : Nat) (H : Tb w lo hi tb n G T) (hh : h < 18446744073709551616) (hno : ∀ p, p < n → (T p).out = true → hbits p (T p).gen (T p).r ≠ h) :
    Calls Tryd.prog 12 #[.pointer (some ⟨tb, 0, none⟩), .int .u64 (h : Nat)] w fun x w' => x = .returned (.int .i64 5) ∧ w.grownBy w' none := by
  obtain ⟨rb, ro, pb, po, b, g, hb, H, rr, s⟩ := H
  exact revoke_no h H hh hno
theorem trev_ok (p : Nat) (H : Tb w lo hi tb n G T) (hp : p < n) (ho : (T p).out = true) :
    Calls Tryd.prog 12 #[.pointer (some ⟨tb, 0, none⟩), .int .u64 (hbits p (T p).gen (T p).r : Nat)] w fun x w' => x = .returned (.int .i64 0) ∧ Only lo hi w w' ∧ Tb w' lo hi tb n G (upV T p (T p).drop) := by
  obtain ⟨rb, ro, pb, po, b, g, hb, H, rr, s⟩ := H
  exact (revoke_ok p H hp ho).mono fun e w' ⟨he, t, c⟩ => ⟨he, t.only (by omega) (by omega) (by omega), rb, ro, pb, po, b, g, hb, c, rr, Nat.le_trans s t.size⟩
theorem tdead (H : Tb w lo hi tb n G T) (hT : TabAt w) : Calls Tryd.prog 16 #[.pointer (some ⟨tb, 0, none⟩)] w fun e w' => e = .returned (.int .i64 (deadN T G n : Nat)) ∧ w.grownBy w' none := by
  obtain ⟨rb, ro, pb, po, b, g, hb, H, rr, s⟩ := H
  exact dead_any H hT
theorem tcount (H : Tb w lo hi tb n G T) (hT : TabAt w) : Calls Tryd.prog 15 #[.pointer (some ⟨tb, 0, none⟩)] w fun e w' => e = .returned (.int .i64 (liveN T n : Nat)) ∧ w.grownBy w' none := by
  obtain ⟨rb, ro, pb, po, b, g, hb, H, rr, s⟩ := H
  exact ccount_any H hT
end

/-- A new table in a region of a slab in which nothing is taken. -/
theorem tnew_made {w : World} {lo hi sb rb m : Nat} {n : Nat → Nat} (k : Nat) (gens : Int) (hk : k < m) (H : SR.SlabAt w lo hi sb rb m n (fun _ _ => false) (fun _ _ => SR.Pr.none)) :
    Calls Tryd.prog 18 #[.pointer (some ⟨rb, 2 * k, none⟩), .int .i64 gens] w fun e w' => ∃ tb, e = .returned (.pointer (some ⟨tb, 0, none⟩)) ∧ w.grownBy w' none ∧ Tb w' lo w'.heap.size tb (n k) (gensOf gens) (fun _ => Pl.fresh) := by
  obtain ⟨pb, po, b, g, H⟩ := H
  obtain ⟨a1, a2, a3, a4, a5, a6, a7⟩ := H.r0
  have r1 := H.r1 k hk
  refine (cnew_made gens (H.reg k hk)).mono ?_
  rintro e w' ⟨tb, hb, he, hg, h1, h2, C⟩
  have := C.l
  have := hg.size
  exact ⟨tb, he, hg, rb, 2 * k, pb, po k, b k, g k, hb, C, by omega, Nat.le_refl _⟩
end Go.Proofs.YtbkjdbimkofceaaDoor
