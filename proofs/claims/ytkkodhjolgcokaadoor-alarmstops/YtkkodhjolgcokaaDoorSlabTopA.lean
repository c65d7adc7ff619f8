/-
  A slab of rows of timers as a whole, over this seat's translation: its regions, which are apart; New, Regions, Region.
-/
import Derived.Test.YtkkodhjolgcokaaDoorSlabMakeA
namespace Go.Proofs.YtkkodhjolgcokaaDoor.SA
open Go.RowKit Go.Lib
set_option maxRecDepth 100000

/-- A slab: the struct in block sb, the row of regions in block rb; all its blocks lie from lo on, below hi. -/
structure SlabMem (w : World) (lo hi sb rb pb m : Nat) (n po b g : Nat → Nat) (S : Nat → Nat → Bool) (V : Nat → Nat → Pr) : Prop where
  c0 : w.cell? ⟨sb, 0, none⟩ = some (.slice (some ⟨rb, 0, none⟩) m m)
  reg : ∀ i, i < m → RegMem w rb (2 * i) pb (po i) (b i) (g i) (n i) (S i) (V i)
  apart : ∀ i j, i < m → j < m → i ≠ j → b i ≠ g j ∧ g i ≠ g j ∧ (po i + n i * 4 ≤ po j ∨ po j + n j * 4 ≤ po i)
  sbd : sb ≠ pb ∧ ∀ i, i < m → sb ≠ g i
  r0 : lo ≤ sb ∧ sb < hi ∧ lo ≤ rb ∧ rb < hi ∧ lo ≤ pb ∧ pb < hi ∧ hi ≤ w.heap.size
  r1 : ∀ i, i < m → lo ≤ b i ∧ b i < hi ∧ lo ≤ g i ∧ g i < hi
def SlabAt (w : World) (lo hi sb rb m : Nat) (n : Nat → Nat) (S : Nat → Nat → Bool) (V : Nat → Nat → Pr) : Prop := ∃ pb po b g, SlabMem w lo hi sb rb pb m n po b g S V

theorem SlabAt.kept {w w' : World} {lo hi sb rb m : Nat} {n : Nat → Nat} {S : Nat → Nat → Bool} {V : Nat → Nat → Pr} {l h : Nat} (H : SlabAt w lo hi sb rb m n S V) (k : Only l h w w') (hd : hi ≤ l ∨ h ≤ lo) : SlabAt w' lo hi sb rb m n S V := by
  obtain ⟨pb, po, b, g, H⟩ := H
  obtain ⟨a1, a2, a3, a4, a5, a6, a7⟩ := H.r0
  refine ⟨pb, po, b, g, (k.cell' sb 0 (by omega) (by omega)).trans H.c0, fun i hi' => ?_, H.apart, H.sbd, ⟨a1, a2, a3, a4, a5, a6, Nat.le_trans a7 k.size⟩, H.r1⟩
  have := H.r1 i hi'
  exact (H.reg i hi').only k (by omega) (by omega) (by omega) (by omega)
theorem SlabAt.grown {w w' : World} {lo hi sb rb m : Nat} {n : Nat → Nat} {S : Nat → Nat → Bool} {V : Nat → Nat → Pr} (H : SlabAt w lo hi sb rb m n S V) (k : w.grownBy w' none) : SlabAt w' lo hi sb rb m n S V :=
  H.kept (Only.of_none (lo := 0) (hi := 0) k) (Or.inr (Nat.zero_le _))
theorem SlabAt.sz {w : World} {lo hi sb rb m : Nat} {n : Nat → Nat} {S : Nat → Nat → Bool} {V : Nat → Nat → Pr} (H : SlabAt w lo hi sb rb m n S V) : hi ≤ w.heap.size := by
  obtain ⟨pb, po, b, g, H⟩ := H
  exact H.r0.2.2.2.2.2.2

/-- A region of a slab, and what may be done in it: behind it the slab is one again. -/
theorem SlabAt.region {w : World} {lo hi sb rb m : Nat} {n : Nat → Nat} {S : Nat → Nat → Bool} {V : Nat → Nat → Pr} (H : SlabAt w lo hi sb rb m n S V) (k : Nat) (hk : k < m) :
    ∃ pb po b g, RegMem w rb (2 * k) pb po b g (n k) (S k) (V k) ∧ ∀ w' S' V', Touch g pb po (n k * 4) w w' → RegMem w' rb (2 * k) pb po b g (n k) S' V' → Only lo hi w w' ∧ SlabAt w' lo hi sb rb m n (upV S k S') (upV V k V') := by
  obtain ⟨pb, po, b, g, H⟩ := H
  obtain ⟨a1, a2, a3, a4, a5, a6, a7⟩ := H.r0
  have hr := H.r1 k hk
  refine ⟨pb, po k, b k, g k, H.reg k hk, fun w' S' V' T R => ⟨T.only ⟨hr.2.2.1, hr.2.2.2⟩ ⟨a5, a6⟩, pb, po, b, g, (T.far sb 0 (by omega) (H.sbd.2 k hk) H.sbd.1).trans H.c0, fun i hi' => ?_, H.apart, H.sbd, ⟨a1, a2, a3, a4, a5, a6, Nat.le_trans a7 T.size⟩, H.r1⟩⟩
  by_cases e : i = k
  · subst e; rw [upV_same, upV_same]; exact R
  · rw [upV_other _ _ _ _ e, upV_other _ _ _ _ e]
    obtain ⟨b1, b2, b3⟩ := H.apart i k hi' hk e
    exact (H.reg i hi').touch T (H.reg k hk).d.2.2.1 b1 b2 b3
theorem grow_refl (w : World) : w.grownBy w none := ⟨rfl, rfl, rfl, Nat.le_refl _, fun _ _ _ => rfl⟩
theorem upV_self {α : Type} (f : Nat → α) (k : Nat) : upV f k (f k) = f := by
  funext i; by_cases e : i = k
  · subst e; exact upV_same _ _ _
  · exact upV_other _ _ _ _ e

theorem slab_of_pre {w : World} {lo sb rb pb m : Nat} {n b g : Nat → Nat} (H : Pre w sb rb pb m m n b g) (h1 : lo ≤ sb) (h2 : lo ≤ rb) (h3 : lo ≤ pb) : SlabAt w lo w.heap.size sb rb m n (fun _ _ => false) (fun _ _ => Pr.none) := by
  obtain ⟨l1, l2, l3⟩ := H.l
  refine ⟨pb, poff n, b, g, H.c0, H.reg, fun i j hi hj hne => ?_, ⟨H.d.2.1, fun i hi => by have := H.ord i hi; omega⟩, by omega, fun i hi => ?_⟩
  · have oi := H.ord i hi
    have oj := H.ord j hj
    have hsep : poff n i + n i * 4 ≤ poff n j ∨ poff n j + n j * 4 ≤ poff n i := by
      unfold poff
      by_cases zi : n i = 0
      · rw [if_pos zi]; omega
      · by_cases zj : n j = 0
        · rw [if_pos zj]; omega
        · rw [if_neg zi, if_neg zj]
          rcases Nat.lt_or_gt_of_ne hne with h | h
          · have := pre_mono n (i + 1) j h
            rw [pre_succ] at this; omega
          · have := pre_mono n (j + 1) i h
            rw [pre_succ] at this; omega
    rcases Nat.lt_or_gt_of_ne hne with h | h
    · have := H.inc i j h hj
      exact ⟨by omega, by omega, hsep⟩
    · have := H.inc j i h hi
      exact ⟨by omega, by omega, hsep⟩
  · have o := H.ord i hi
    have hb := (H.reg i hi).set.hb
    have hg := (H.reg i hi).set.hg
    omega

theorem new_made (sa : Option Addr) (len cap : Nat) (zs : Nat → Int) (w : World) (h : CapsAt w sa len cap zs) :
    Calls Tryd.prog 18 #[.slice sa len cap] w fun e w' => ∃ sb rb, e = .returned (.pointer (some ⟨sb, 0, none⟩)) ∧ w.grownBy w' none ∧ SlabAt w' w.heap.size w'.heap.size sb rb (min len 64) (nOf zs) (fun _ _ => false) (fun _ _ => Pr.none) :=
  (new_any sa len cap zs w h).mono fun _ _ ⟨sb, rb, _, _, _, he, hg, h1, h2, h3, hp⟩ => ⟨sb, rb, he, hg, slab_of_pre hp h1 h2 h3⟩

section
variable {w : World} {lo hi sb rb m : Nat} {n : Nat → Nat} {S : Nat → Nat → Bool} {V : Nat → Nat → Pr}
theorem region_in (k : Nat) (H : SlabAt w lo hi sb rb m n S V) (hk : k < m) : Calls Tryd.prog 19 #[.pointer (some ⟨sb, 0, none⟩), .int .i64 k] w fun e w' => e = .returned (.pointer (some ⟨rb, 2 * k, none⟩)) ∧ w.grownBy w' none := by
  obtain ⟨pb, po, b, g, H⟩ := H
  have h0 := H.c0
  clear H
  have q : (k : Int) < (m : Int) := by omega
  have e2 : 0 + k * 2 = 2 * k := by omega
  go_enter Tryd.func19, Tryd.ntmps19
  go_wp2
  go_ret
  exact ⟨by simp [Nat.mul_comm], grow_refl _⟩
theorem region_out (k : Int) (H : SlabAt w lo hi sb rb m n S V) (hk : k < 0 ∨ (m : Int) ≤ k) : Calls Tryd.prog 19 #[.pointer (some ⟨sb, 0, none⟩), .int .i64 k] w fun e w' => e = .returned (.pointer none) ∧ w.grownBy w' none := by
  obtain ⟨pb, po, b, g, H⟩ := H
  have h0 := H.c0
  clear H
  by_cases h : k < 0
  · go_enter Tryd.func19, Tryd.ntmps19
    go_wp2
    go_ret
    exact ⟨rfl, grow_refl _⟩
  · have h1 : 0 ≤ k := by omega
    have h2 : (m : Int) ≤ k := by omega
    clear hk h
    go_enter Tryd.func19, Tryd.ntmps19
    go_wp2
    go_ret
    exact ⟨rfl, grow_refl _⟩
end
end Go.Proofs.YtkkodhjolgcokaaDoor.SA
