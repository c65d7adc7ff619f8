/-
  Texts of one claim, joined, one behind the other.
-/
import Derived.Test.YtkkodhjolgcokaaDoorJoin5
import Derived.Deep.RegionHeld3
import Derived.Deep.RegionLaw
import Derived.WalkSmall
/-
  Contracts of package slab for regions of rows of timers, over this seat's translation: how a region lies in memory, and what each call answers and leaves.
-/
namespace Go.Proofs.YtkkodhjolgcokaaDoor.SA
open Go.RowKit Go.Lib
set_option maxRecDepth 100000

/-- A row: a generation, and what it stands for. -/
structure Pr where
  g : Int
  k : Int
  i : Int
  r : Int
/-- A row as a value. -/
def Pr.val (p : Pr) : Value := .agg #[.int .i64 p.g, .int .u64 p.k, .int .u64 p.i, .int .u64 p.r]
def Pr.none : Pr := ⟨0, 0, 0, 0⟩
/-- Four cells of a block hold a row. -/
def PlaceAt (w : World) (c o : Nat) (p : Pr) : Prop := w.cell? ⟨c, o, Option.none⟩ = some (.int .i64 p.g) ∧ w.cell? ⟨c, o + 1, Option.none⟩ = some (.int .u64 p.k) ∧ w.cell? ⟨c, o + 2, Option.none⟩ = some (.int .u64 p.i) ∧ w.cell? ⟨c, o + 3, Option.none⟩ = some (.int .u64 p.r)
def FreeAt (w : World) (c o : Nat) : Prop := w.frozen? ⟨c, o, Option.none⟩ = false ∧ w.frozen? ⟨c, o + 1, Option.none⟩ = false ∧ w.frozen? ⟨c, o + 2, Option.none⟩ = false ∧ w.frozen? ⟨c, o + 3, Option.none⟩ = false
theorem PlaceAt.of {w w' : World} {c o : Nat} {p : Pr} (h : PlaceAt w c o p) (k : ∀ j, j < 4 → w'.cell? ⟨c, o + j, Option.none⟩ = w.cell? ⟨c, o + j, Option.none⟩) : PlaceAt w' c o p :=
  ⟨(k 0 (by decide)).trans h.1, (k 1 (by decide)).trans h.2.1, (k 2 (by decide)).trans h.2.2.1, (k 3 (by decide)).trans h.2.2.2⟩
theorem FreeAt.of {w w' : World} {c o : Nat} (h : FreeAt w c o) (k : ∀ j, j < 4 → w'.frozen? ⟨c, o + j, Option.none⟩ = w.frozen? ⟨c, o + j, Option.none⟩) : FreeAt w' c o :=
  ⟨(k 0 (by decide)).trans h.1, (k 1 (by decide)).trans h.2.1, (k 2 (by decide)).trans h.2.2.1, (k 3 (by decide)).trans h.2.2.2⟩
/-- A row is stored. -/
def put4 (w : World) (c o : Nat) (p : Pr) : World := (((w.setCell ⟨c, o, Option.none⟩ (.int .i64 p.g)).setCell ⟨c, o + 1, Option.none⟩ (.int .u64 p.k)).setCell ⟨c, o + 2, Option.none⟩ (.int .u64 p.i)).setCell ⟨c, o + 3, Option.none⟩ (.int .u64 p.r)

/-- A region: its struct in block rb from ro on, its places in block pb from po on, its set in blocks b and g. -/
structure RegMem (w : World) (rb ro pb po b g n : Nat) (S : Nat → Bool) (V : Nat → Pr) : Prop where
  c0 : w.cell? ⟨rb, ro, none⟩ = some (.slice (some ⟨pb, po, none⟩) n n)
  c1 : w.cell? ⟨rb, ro + 1, none⟩ = some (.pointer (some ⟨b, 0, none⟩))
  cv : ∀ j, j < n → PlaceAt w pb (po + j * 4) (V j)
  fv : ∀ j, j < n → FreeAt w pb (po + j * 4)
  set : SetAt w b g n S
  hn : n ≤ 256
  d : rb ≠ pb ∧ rb ≠ b ∧ rb ≠ g ∧ pb ≠ b ∧ pb ≠ g
  l : rb < w.heap.size ∧ pb < w.heap.size

section
variable {w : World} {rb ro pb po b g n : Nat} {S : Nat → Bool} {V : Nat → Pr}

theorem RegMem.only {w' : World} {lo hi : Nat} (H : RegMem w rb ro pb po b g n S V) (k : Only lo hi w w') (h1 : rb < lo ∨ hi ≤ rb) (h2 : pb < lo ∨ hi ≤ pb) (h3 : b < lo ∨ hi ≤ b) (h4 : g < lo ∨ hi ≤ g) : RegMem w' rb ro pb po b g n S V :=
  ⟨(k.cell' rb _ H.l.1 h1).trans H.c0, (k.cell' rb _ H.l.1 h1).trans H.c1, fun j hj => (H.cv j hj).of fun _ _ => k.cell' pb _ H.l.2 h2, fun j hj => (H.fv j hj).of fun _ _ => k.frozen' pb _ H.l.2 h2, H.set.only k h3 h4, H.hn, H.d, ⟨Nat.lt_of_lt_of_le H.l.1 k.size, Nat.lt_of_lt_of_le H.l.2 k.size⟩⟩
theorem RegMem.kept {w' : World} (H : RegMem w rb ro pb po b g n S V) (k : w.grownBy w' none) : RegMem w' rb ro pb po b g n S V :=
  H.only (Only.of_none (lo := 0) (hi := 0) k) (Or.inr (by omega)) (Or.inr (by omega)) (Or.inr (by omega)) (Or.inr (by omega))
/-- Another region of the same slab stays as it is. -/
theorem RegMem.touch {w' : World} {g' po' n' : Nat} (H : RegMem w rb ro pb po b g n S V) (k : Touch g' pb po' n' w w') (h1 : rb ≠ g') (h2 : b ≠ g') (h3 : g ≠ g') (h4 : po + n * 4 ≤ po' ∨ po' + n' ≤ po) : RegMem w' rb ro pb po b g n S V :=
  ⟨(k.far rb _ H.l.1 h1 H.d.1).trans H.c0, (k.far rb _ H.l.1 h1 H.d.1).trans H.c1, fun j hj => (H.cv j hj).of fun i hi => k.cell _ (by omega), fun j hj => (H.fv j hj).of fun _ _ => k.frz _, H.set.touch k ⟨h2, fun e => H.d.2.2.2.1 e.symm⟩ ⟨h3, fun e => H.d.2.2.2.2 e.symm⟩, H.hn, H.d, ⟨Nat.lt_of_lt_of_le H.l.1 k.size, Nat.lt_of_lt_of_le H.l.2 k.size⟩⟩
theorem put4_out (w : World) (c o : Nat) (p : Pr) (c' j : Nat) (h : c' ≠ c ∨ j < o ∨ o + 4 ≤ j) : (put4 w c o p).cell? ⟨c', j, none⟩ = w.cell? ⟨c', j, none⟩ := by
  unfold put4
  rw [World.cell?_setCell_other _ _ _ _ (by intro e; injection e with e1 e2; omega), World.cell?_setCell_other _ _ _ _ (by intro e; injection e with e1 e2; omega), World.cell?_setCell_other _ _ _ _ (by intro e; injection e with e1 e2; omega), World.cell?_setCell_other _ _ _ _ (by intro e; injection e with e1 e2; omega)]
theorem put4_frz (w : World) (c o : Nat) (p : Pr) (a : Addr) : (put4 w c o p).frozen? a = w.frozen? a := by
  unfold put4
  rw [World.frozen?_setCell, World.frozen?_setCell, World.frozen?_setCell, World.frozen?_setCell]
theorem put4_size (w : World) (c o : Nat) (p : Pr) : (put4 w c o p).heap.size = w.heap.size := by
  unfold put4
  rw [size_set, size_set, size_set, size_set]
theorem put4_in (w : World) (c o : Nat) (p q : Pr) (h : PlaceAt w c o q) : PlaceAt (put4 w c o p) c o p := by
  unfold put4
  refine ⟨?_, ?_, ?_, ?_⟩
  · rw [World.cell?_setCell_other _ _ _ _ (by intro e; injection e with e1 e2; omega), World.cell?_setCell_other _ _ _ _ (by intro e; injection e with e1 e2; omega), World.cell?_setCell_other _ _ _ _ (by intro e; injection e with e1 e2; omega)]
    exact World.cell?_setCell_same _ _ _ h.1
  · rw [World.cell?_setCell_other _ _ _ _ (by intro e; injection e with e1 e2; omega), World.cell?_setCell_other _ _ _ _ (by intro e; injection e with e1 e2; omega)]
    exact World.cell?_setCell_same _ _ _ ((World.cell?_setCell_other _ _ _ _ (by intro e; injection e with e1 e2; omega)).trans h.2.1)
  · rw [World.cell?_setCell_other _ _ _ _ (by intro e; injection e with e1 e2; omega)]
    exact World.cell?_setCell_same _ _ _ (((World.cell?_setCell_other _ _ _ _ (by intro e; injection e with e1 e2; omega)).trans (World.cell?_setCell_other _ _ _ _ (by intro e; injection e with e1 e2; omega))).trans h.2.2.1)
  · exact World.cell?_setCell_same _ _ _ ((((World.cell?_setCell_other _ _ _ _ (by intro e; injection e with e1 e2; omega)).trans (World.cell?_setCell_other _ _ _ _ (by intro e; injection e with e1 e2; omega))).trans (World.cell?_setCell_other _ _ _ _ (by intro e; injection e with e1 e2; omega))).trans h.2.2.2)
theorem put4_touch {g pb po n : Nat} (w : World) (o : Nat) (p : Pr) (h1 : po ≤ o) (h2 : o + 4 ≤ po + n) : Touch g pb po n w (put4 w pb o p) :=
  (((Touch.set w _ _ h1 (by omega)).trans (Touch.set _ _ _ (by omega) (by omega))).trans (Touch.set _ _ _ (by omega) (by omega))).trans (Touch.set _ _ _ (by omega) (by omega))
theorem RegMem.setV (H : RegMem w rb ro pb po b g n S V) (k : Nat) (hk : k < n) (v : Pr) : RegMem (put4 w pb (po + k * 4) v) rb ro pb po b g n S (upV V k v) := by
  obtain ⟨d1, d2, d3, d4, d5⟩ := H.d
  have ot : ∀ c j, c ≠ pb → (put4 w pb (po + k * 4) v).cell? ⟨c, j, none⟩ = w.cell? ⟨c, j, none⟩ := fun c j hc => put4_out _ _ _ _ _ _ (Or.inl hc)
  refine ⟨(ot _ _ d1).trans H.c0, (ot _ _ d1).trans H.c1, fun j hj => ?_, fun j hj => (H.fv j hj).of fun _ _ => put4_frz _ _ _ _ _, ?_, H.hn, H.d, by rw [put4_size]; exact H.l⟩
  · by_cases e : j = k
    · subst e; rw [upV_same]; exact put4_in _ _ _ _ _ (H.cv j hj)
    · rw [upV_other _ _ _ _ e]; exact (H.cv j hj).of fun i hi => put4_out _ _ _ _ _ _ (by omega)
  · have h := H.set
    exact ⟨h.size, h.bound, (ot _ _ (Ne.symm d4)).trans h.c0, (ot _ _ (Ne.symm d4)).trans h.c1, fun j hj => (ot _ _ (Ne.symm d5)).trans (h.cw j hj), fun j hj => (put4_frz _ _ _ _ _).trans (h.cf j hj), h.bg, by rw [put4_size]; exact h.hb, by rw [put4_size]; exact h.hg⟩
/-- The set has turned, the places have not. -/
theorem RegMem.setS {w' : World} {S' : Nat → Bool} (H : RegMem w rb ro pb po b g n S V) (k : w.grownBy w' (some g)) (hs : SetAt w' b g n S') : RegMem w' rb ro pb po b g n S' V := by
  obtain ⟨d1, d2, d3, d4, d5⟩ := H.d
  have e1 : (some rb : Option Nat) ≠ some g := fun h => by cases h; exact d3 rfl
  have e2 : (some pb : Option Nat) ≠ some g := fun h => by cases h; exact d5 rfl
  exact ⟨(k.cell_far ⟨rb, ro, none⟩ H.l.1 e1).trans H.c0, (k.cell_far ⟨rb, ro + 1, none⟩ H.l.1 e1).trans H.c1, fun j hj => (H.cv j hj).of fun _ _ => k.cell_far ⟨pb, _, none⟩ H.l.2 e2, fun j hj => (H.fv j hj).of fun _ _ => k.frozen_far ⟨pb, _, none⟩ H.l.2 e2, hs, H.hn, H.d, ⟨Nat.lt_of_lt_of_le H.l.1 k.size, Nat.lt_of_lt_of_le H.l.2 k.size⟩⟩

theorem room_any (H : RegMem w rb ro pb po b g n S V) : Calls Tryd.prog 36 #[.pointer (some ⟨rb, ro, none⟩)] w fun e w' => e = .returned (.int .i64 (n : Int)) ∧ w = w' := by
  have h0 := H.c0
  clear H
  go_enter Tryd.func36, Tryd.ntmps36
  go_wp2
  go_ret
  exact ⟨rfl, rfl⟩
theorem count_any (H : RegMem w rb ro pb po b g n S V) : Calls Tryd.prog 30 #[.pointer (some ⟨rb, ro, none⟩)] w fun e w' => e = .returned (.int .i64 (cnt S n : Nat)) ∧ w = w' := by
  have h1 := H.c1
  have C := Lib.hid (Go.Proofs.YtkkodhjolgcokaaDoor.count_any b g n S w H.set)
  clear H
  go_enter Tryd.func30, Tryd.ntmps30
  go_wp2_with fail
  refine (C.out).mono ?_
  rintro e w' ⟨rfl, rfl⟩
  go_wp2
  go_ret
  exact ⟨rfl, rfl⟩
set_option maxHeartbeats 2000000 in
theorem take_some (p : Nat) (v : Pr) (H : RegMem w rb ro pb po b g n S V) (hT : TabAt w) (hp : p < n) (hS : S p = false) (hl : ∀ q, q < p → S q = true) :
    Calls Tryd.prog 22 #[.pointer (some ⟨rb, ro, none⟩), v.val] w fun e w' => e = .returned (.tuple #[.int .i64 p, .bool true]) ∧ Touch g pb po (n * 4) w w' ∧ RegMem w' rb ro pb po b g n (ins S p) (upV V p v) := by
  have ka := World.grownBy_alloc w (.cells #[.int .i64 v.g, .int .u64 v.k, .int .u64 v.i, .int .u64 v.r] 33) none
  have Ha := H.kept ka
  have h1 := Ha.c1
  have C1 := Lib.hid (least_some (gap_any b g n 0 S _ Ha.set (hT.kept ka)) p (by simp) hp (by simp [hS]) (fun q _ hq => by simp [hl q hq]))
  have C2 := Lib.hid (put_in b g n p S _ Ha.set hp hS)
  have HH := Lib.hid Ha
  have HW := Lib.hid H
  have KA := Lib.hid ka
  have bx : Hid (∀ v1 : World, (w.alloc (.cells #[.int .i64 v.g, .int .u64 v.k, .int .u64 v.i, .int .u64 v.r] 33)).grownBy v1 (some g) → PlaceAt v1 w.heap.size 0 v) := Lib.hid fun v1 k1 => by
    have hg := H.set.hg
    have e : ∀ j, v1.cell? ⟨w.heap.size, j, none⟩ = (w.alloc (.cells #[.int .i64 v.g, .int .u64 v.k, .int .u64 v.i, .int .u64 v.r] 33)).cell? ⟨w.heap.size, j, none⟩ := fun j => k1.cell_far ⟨w.heap.size, j, none⟩ (by simp) (fun h => absurd (Option.some.inj h) (show w.heap.size ≠ g by omega))
    refine ⟨(e _).trans ?_, (e _).trans ?_, (e _).trans ?_, (e _).trans ?_⟩ <;> rw [World.cell?_alloc_new] <;> rfl
  have hn := H.hn
  clear H hl Ha hT ka
  unfold Pr.val
  go_enter Tryd.func22, Tryd.ntmps22
  go_wp2_with fail
  refine (C1.out).mono ?_
  rintro e w' ⟨rfl, rfl⟩
  go_wp2_with fail
  refine C2.out.mono ?_
  rintro e w1 ⟨rfl, k1, hs1⟩
  have H1 := HH.out.setS k1 hs1
  have hpb : pb < (w.alloc (.cells #[.int .i64 v.g, .int .u64 v.k, .int .u64 v.i, .int .u64 v.r] 33)).heap.size := HH.out.l.2
  have T1 : Hid (Touch g pb po (n * 4) w w1) := Lib.hid ((Touch.of_none KA.out HW.out.l.2).trans (Touch.of_grown k1 hpb HH.out.d.2.2.2.2))
  obtain ⟨b1, b2, b3, b4⟩ := bx.out w1 k1
  have kd : w1.grownBy w1.drew none := ⟨rfl, rfl, rfl, Nat.le_refl _, fun _ _ _ => rfl⟩
  have H2 := H1.kept kd
  have T2 : Hid (Touch g pb po (n * 4) w1 w1.drew) := Lib.hid (Touch.of_none kd H1.l.2)
  have c1 : w1.drew.cell? ⟨w.heap.size, 0, none⟩ = some (.int .i64 v.g) := b1
  have c2 : w1.drew.cell? ⟨w.heap.size, 0 + 1, none⟩ = some (.int .u64 v.k) := b2
  have c3 : w1.drew.cell? ⟨w.heap.size, 0 + 2, none⟩ = some (.int .u64 v.i) := b3
  have c4 : w1.drew.cell? ⟨w.heap.size, 0 + 3, none⟩ = some (.int .u64 v.r) := b4
  clear k1 hs1 HH C1 C2 h1 hS bx HW KA hpb b1 b2 b3 b4 kd H1
  go_wp2_with fail
  refine wp_region_still_tail 7 (by kernel_rfl) (by kernel_rfl) ?_
  simp only [List.take_succ_cons, List.take_zero, List.drop_succ_cons, List.drop_zero]
  change wpStill _ _ w1.drew (fun a' => wpList _ _ _ _ a' w1.drew) _ _
  generalize w1.drew = w2 at H2 T2 c1 c2 c3 c4 ⊢
  have h0 := H2.c0
  obtain ⟨v1, v2, v3, v4⟩ := H2.cv p hp
  obtain ⟨f1, f2, f3, f4⟩ := H2.fv p hp
  have H3 := Lib.hid (H2.setV p hp v)
  have T3 : Hid (Touch g pb po (n * 4) w2 (put4 w2 pb (po + p * 4) v)) := Lib.hid (put4_touch w2 _ v (by omega) (by omega))
  have q1 : 0 ≤ (p : Int) := by omega
  have q2 : (p : Int) < (n : Int) := by omega
  clear H2
  repeat still_step
  refine wpStill_nil ?_
  go_wp2
  go_ret2
  exact ⟨rfl, (T1.out.trans T2.out).trans T3.out, H3.out⟩
theorem take_none (v : Pr) (H : RegMem w rb ro pb po b g n S V) (hT : TabAt w) (hl : ∀ q, q < n → S q = true) :
    Calls Tryd.prog 22 #[.pointer (some ⟨rb, ro, none⟩), v.val] w fun e w' => e = .returned (.tuple #[.int .i64 0, .bool false]) ∧ w.grownBy w' none := by
  have ka := World.grownBy_alloc w (.cells #[.int .i64 v.g, .int .u64 v.k, .int .u64 v.i, .int .u64 v.r] 33) none
  have Ha := H.kept ka
  have h1 := Ha.c1
  have C1 := Lib.hid (least_none (gap_any b g n 0 S _ Ha.set (hT.kept ka)) (fun q _ hq => by simp [hl q hq]))
  have KA := Lib.hid ka
  clear H hl Ha hT ka
  unfold Pr.val
  go_enter Tryd.func22, Tryd.ntmps22
  go_wp2_with fail
  refine (C1.out).mono ?_
  rintro e w' ⟨rfl, rfl⟩
  go_wp2
  go_ret2
  exact ⟨rfl, KA.out⟩

set_option maxHeartbeats 2000000 in
theorem give_in (p : Nat) (H : RegMem w rb ro pb po b g n S V) (hp : p < n) (hS : S p = true) :
    Calls Tryd.prog 31 #[.pointer (some ⟨rb, ro, none⟩), .int .i64 p] w fun e w' => e = .returned (.bool true) ∧ Touch g pb po (n * 4) w w' ∧ RegMem w' rb ro pb po b g n (del S p) (upV V p Pr.none) := by
  have h1 := H.c1
  have C2 := Lib.hid (drop_in b g n p S w H.set hp hS)
  have HH := Lib.hid H
  have hn := H.hn
  clear H
  go_enter Tryd.func31, Tryd.ntmps31
  go_wp2_with fail
  refine C2.out.mono ?_
  rintro e w1 ⟨rfl, k1, hs1⟩
  have H1 := HH.out.setS k1 hs1
  have T1 : Hid (Touch g pb po (n * 4) w w1) := Lib.hid (Touch.of_grown k1 HH.out.l.2 HH.out.d.2.2.2.2)
  have kd : w1.grownBy (w1.alloc (.cells #[.int .i64 0, .int .u64 0, .int .u64 0, .int .u64 0] 33)).drew none := (World.grownBy_alloc w1 (.cells #[.int .i64 0, .int .u64 0, .int .u64 0, .int .u64 0] 33) none).trans ⟨rfl, rfl, rfl, Nat.le_refl _, fun _ _ _ => rfl⟩
  have H2 := H1.kept kd
  have T2 : Hid (Touch g pb po (n * 4) w1 (w1.alloc (.cells #[.int .i64 0, .int .u64 0, .int .u64 0, .int .u64 0] 33)).drew) := Lib.hid (Touch.of_none kd H1.l.2)
  have c1 : (w1.alloc (.cells #[.int .i64 0, .int .u64 0, .int .u64 0, .int .u64 0] 33)).drew.cell? ⟨w1.heap.size, 0, none⟩ = some (.int .i64 0) := World.cell?_alloc_new ..
  have c2 : (w1.alloc (.cells #[.int .i64 0, .int .u64 0, .int .u64 0, .int .u64 0] 33)).drew.cell? ⟨w1.heap.size, 0 + 1, none⟩ = some (.int .u64 0) := World.cell?_alloc_new ..
  have c3 : (w1.alloc (.cells #[.int .i64 0, .int .u64 0, .int .u64 0, .int .u64 0] 33)).drew.cell? ⟨w1.heap.size, 0 + 2, none⟩ = some (.int .u64 0) := World.cell?_alloc_new ..
  have c4 : (w1.alloc (.cells #[.int .i64 0, .int .u64 0, .int .u64 0, .int .u64 0] 33)).drew.cell? ⟨w1.heap.size, 0 + 3, none⟩ = some (.int .u64 0) := World.cell?_alloc_new ..
  clear k1 hs1 HH C2 h1 hS kd H1
  go_wp2_with fail
  refine wp_region_still_tail 7 (by kernel_rfl) (by kernel_rfl) ?_
  simp only [List.take_succ_cons, List.take_zero, List.drop_succ_cons, List.drop_zero]
  change wpStill _ _ (w1.alloc (.cells #[.int .i64 0, .int .u64 0, .int .u64 0, .int .u64 0] 33)).drew (fun a' => wpList _ _ _ _ a' (w1.alloc (.cells #[.int .i64 0, .int .u64 0, .int .u64 0, .int .u64 0] 33)).drew) _ _
  generalize (w1.alloc (.cells #[.int .i64 0, .int .u64 0, .int .u64 0, .int .u64 0] 33)).drew = w2 at H2 T2 c1 c2 c3 c4 ⊢
  have h0 := H2.c0
  obtain ⟨v1, v2, v3, v4⟩ := H2.cv p hp
  obtain ⟨f1, f2, f3, f4⟩ := H2.fv p hp
  have H3 := Lib.hid (H2.setV p hp Pr.none)
  have T3 : Hid (Touch g pb po (n * 4) w2 (put4 w2 pb (po + p * 4) Pr.none)) := Lib.hid (put4_touch w2 _ _ (by omega) (by omega))
  have q1 : 0 ≤ (p : Int) := by omega
  have q2 : (p : Int) < (n : Int) := by omega
  clear H2
  repeat still_step
  refine wpStill_nil ?_
  go_wp2
  go_ret
  exact ⟨rfl, (T1.out.trans T2.out).trans T3.out, H3.out⟩
theorem give_no (k : Int) (H : RegMem w rb ro pb po b g n S V) (hv : k < 0 ∨ (n : Int) ≤ k ∨ S k.toNat = false) :
    Calls Tryd.prog 31 #[.pointer (some ⟨rb, ro, none⟩), .int .i64 k] w fun e w' => e = .returned (.bool false) ∧ w.grownBy w' none := by
  have h1 := H.c1
  have C2 := Lib.hid (drop_none b g n k S w H.set hv)
  clear H hv
  go_enter Tryd.func31, Tryd.ntmps31
  go_wp2_with fail
  refine C2.out.mono ?_
  rintro e w1 ⟨rfl, k1⟩
  go_wp2
  go_ret
  exact ⟨rfl, k1⟩

set_option maxHeartbeats 1000000 in
theorem at_in (p : Nat) (H : RegMem w rb ro pb po b g n S V) (hp : p < n) (hS : S p = true) :
    Calls Tryd.prog 27 #[.pointer (some ⟨rb, ro, none⟩), .int .i64 p] w fun e w' => e = .returned (.tuple #[(V p).val, .bool true]) ∧ w.grownBy w' none := by
  have ka := World.grownBy_alloc w (.cells #[.int .i64 0, .int .u64 0, .int .u64 0, .int .u64 0] 33) none
  have Ha := H.kept ka
  have h1 := Ha.c1
  have C2 := Lib.hid (has_g b g n p S _ Ha.set true (Or.inl ⟨by omega, by omega, by simpa using hS⟩))
  have HH := Lib.hid Ha
  have hn := H.hn
  have KA := Lib.hid ka
  clear H hS Ha ka
  unfold Pr.val
  go_enter Tryd.func27, Tryd.ntmps27
  go_wp2_with fail
  refine C2.out.mono ?_
  rintro e w1 ⟨rfl, k1⟩
  have H1 := HH.out.kept k1
  have h0 := H1.c0
  obtain ⟨v1, v2, v3, v4⟩ := H1.cv p hp
  have bx : ∀ j, w1.cell? ⟨w.heap.size, j, none⟩ = (w.alloc (.cells #[.int .i64 0, .int .u64 0, .int .u64 0, .int .u64 0] 33)).cell? ⟨w.heap.size, j, none⟩ := fun j => k1.cell_far ⟨w.heap.size, j, none⟩ (by simp) (by simp)
  have bf : ∀ j, w1.frozen? ⟨w.heap.size, j, none⟩ = (w.alloc (.cells #[.int .i64 0, .int .u64 0, .int .u64 0, .int .u64 0] 33)).frozen? ⟨w.heap.size, j, none⟩ := fun j => k1.frozen_far ⟨w.heap.size, j, none⟩ (by simp) (by simp)
  have x1 : w1.cell? ⟨w.heap.size, 0, none⟩ = some (.int .i64 0) := (bx 0).trans (World.cell?_alloc_new ..)
  have x2 : w1.cell? ⟨w.heap.size, 1, none⟩ = some (.int .u64 0) := (bx 1).trans (World.cell?_alloc_new ..)
  have x3 : w1.cell? ⟨w.heap.size, 2, none⟩ = some (.int .u64 0) := (bx 2).trans (World.cell?_alloc_new ..)
  have x4 : w1.cell? ⟨w.heap.size, 3, none⟩ = some (.int .u64 0) := (bx 3).trans (World.cell?_alloc_new ..)
  have y1 : w1.frozen? ⟨w.heap.size, 0, none⟩ = false := (bf 0).trans (by simp)
  have y2 : w1.frozen? ⟨w.heap.size, 1, none⟩ = false := (bf 1).trans (by simp)
  have y3 : w1.frozen? ⟨w.heap.size, 2, none⟩ = false := (bf 2).trans (by simp)
  have y4 : w1.frozen? ⟨w.heap.size, 3, none⟩ = false := (bf 3).trans (by simp)
  have KK := Lib.hid k1
  clear H1 HH C2 h1 bx bf k1
  go_wp2
  exact bodyPost_ret (v := .tuple #[.agg #[.int .i64 (V p).g, .int .u64 (V p).k, .int .u64 (V p).i, .int .u64 (V p).r], .bool true]) (by simp [results, Tryd.results27, go_sem, x1, x2, x3, x4]) rfl
    ⟨rfl, Only.on (grow_to KA.out KK.out) ((((Only.set (lo := w.heap.size) (hi := w.heap.size + 1) _ ⟨w.heap.size, 0, none⟩ _ (Nat.le_refl _) (Nat.lt_succ_self _)).trans (Only.set _ ⟨w.heap.size, 1, none⟩ _ (Nat.le_refl _) (Nat.lt_succ_self _))).trans (Only.set _ ⟨w.heap.size, 2, none⟩ _ (Nat.le_refl _) (Nat.lt_succ_self _))).trans (Only.set _ ⟨w.heap.size, 3, none⟩ _ (Nat.le_refl _) (Nat.lt_succ_self _))) (Nat.le_refl _)⟩
set_option maxHeartbeats 1000000 in
theorem at_no (k : Int) (H : RegMem w rb ro pb po b g n S V) (hv : k < 0 ∨ (n : Int) ≤ k ∨ S k.toNat = false) :
    Calls Tryd.prog 27 #[.pointer (some ⟨rb, ro, none⟩), .int .i64 k] w fun e w' => e = .returned (.tuple #[Pr.none.val, .bool false]) ∧ w.grownBy w' none := by
  have ka := World.grownBy_alloc w (.cells #[.int .i64 0, .int .u64 0, .int .u64 0, .int .u64 0] 33) none
  have Ha := H.kept ka
  have h1 := Ha.c1
  have C2 := Lib.hid (has_g b g n k S _ Ha.set false (by
    by_cases h : 0 ≤ k ∧ k < n
    · refine Or.inl ⟨h.1, h.2, ?_⟩
      rcases hv with h2 | h2 | h2
      · omega
      · omega
      · exact h2
    · exact Or.inr ⟨by omega, rfl⟩))
  have KA := Lib.hid ka
  clear H hv Ha ka
  unfold Pr.val Pr.none
  go_enter Tryd.func27, Tryd.ntmps27
  go_wp2_with fail
  refine C2.out.mono ?_
  rintro e w1 ⟨rfl, k1⟩
  have hsz : w.heap.size + 1 ≤ w1.heap.size := by have := k1.size; simpa using this
  have bx : ∀ j, (w1.alloc (.cells #[.int .i64 0, .int .u64 0, .int .u64 0, .int .u64 0] 33)).cell? ⟨w.heap.size, j, none⟩ = (w.alloc (.cells #[.int .i64 0, .int .u64 0, .int .u64 0, .int .u64 0] 33)).cell? ⟨w.heap.size, j, none⟩ := fun j => ((World.grownBy_alloc w1 (.cells #[.int .i64 0, .int .u64 0, .int .u64 0, .int .u64 0] 33) none).cell_far ⟨w.heap.size, j, none⟩ (by show w.heap.size < _; omega) (by simp)).trans (k1.cell_far ⟨w.heap.size, j, none⟩ (by simp) (by simp))
  have bf : ∀ j, (w1.alloc (.cells #[.int .i64 0, .int .u64 0, .int .u64 0, .int .u64 0] 33)).frozen? ⟨w.heap.size, j, none⟩ = (w.alloc (.cells #[.int .i64 0, .int .u64 0, .int .u64 0, .int .u64 0] 33)).frozen? ⟨w.heap.size, j, none⟩ := fun j => ((World.grownBy_alloc w1 (.cells #[.int .i64 0, .int .u64 0, .int .u64 0, .int .u64 0] 33) none).frozen_far ⟨w.heap.size, j, none⟩ (by show w.heap.size < _; omega) (by simp)).trans (k1.frozen_far ⟨w.heap.size, j, none⟩ (by simp) (by simp))
  have x1 : (w1.alloc (.cells #[.int .i64 0, .int .u64 0, .int .u64 0, .int .u64 0] 33)).cell? ⟨w.heap.size, 0, none⟩ = some (.int .i64 0) := (bx 0).trans (World.cell?_alloc_new ..)
  have x2 : (w1.alloc (.cells #[.int .i64 0, .int .u64 0, .int .u64 0, .int .u64 0] 33)).cell? ⟨w.heap.size, 1, none⟩ = some (.int .u64 0) := (bx 1).trans (World.cell?_alloc_new ..)
  have x3 : (w1.alloc (.cells #[.int .i64 0, .int .u64 0, .int .u64 0, .int .u64 0] 33)).cell? ⟨w.heap.size, 2, none⟩ = some (.int .u64 0) := (bx 2).trans (World.cell?_alloc_new ..)
  have x4 : (w1.alloc (.cells #[.int .i64 0, .int .u64 0, .int .u64 0, .int .u64 0] 33)).cell? ⟨w.heap.size, 3, none⟩ = some (.int .u64 0) := (bx 3).trans (World.cell?_alloc_new ..)
  have y1 : (w1.alloc (.cells #[.int .i64 0, .int .u64 0, .int .u64 0, .int .u64 0] 33)).frozen? ⟨w.heap.size, 0, none⟩ = false := (bf 0).trans (by simp)
  have y2 : (w1.alloc (.cells #[.int .i64 0, .int .u64 0, .int .u64 0, .int .u64 0] 33)).frozen? ⟨w.heap.size, 1, none⟩ = false := (bf 1).trans (by simp)
  have y3 : (w1.alloc (.cells #[.int .i64 0, .int .u64 0, .int .u64 0, .int .u64 0] 33)).frozen? ⟨w.heap.size, 2, none⟩ = false := (bf 2).trans (by simp)
  have y4 : (w1.alloc (.cells #[.int .i64 0, .int .u64 0, .int .u64 0, .int .u64 0] 33)).frozen? ⟨w.heap.size, 3, none⟩ = false := (bf 3).trans (by simp)
  have KK := Lib.hid (k1.trans (World.grownBy_alloc w1 (.cells #[.int .i64 0, .int .u64 0, .int .u64 0, .int .u64 0] 33) none))
  clear C2 h1 bx bf k1
  go_wp2
  exact bodyPost_ret (v := .tuple #[.agg #[.int .i64 0, .int .u64 0, .int .u64 0, .int .u64 0], .bool false]) (by simp [results, Tryd.results27, go_sem, x1, x2, x3, x4]) rfl
    ⟨rfl, Only.on (grow_to KA.out KK.out) ((((Only.set (lo := w.heap.size) (hi := w.heap.size + 1) _ ⟨w.heap.size, 0, none⟩ _ (Nat.le_refl _) (Nat.lt_succ_self _)).trans (Only.set _ ⟨w.heap.size, 1, none⟩ _ (Nat.le_refl _) (Nat.lt_succ_self _))).trans (Only.set _ ⟨w.heap.size, 2, none⟩ _ (Nat.le_refl _) (Nat.lt_succ_self _))).trans (Only.set _ ⟨w.heap.size, 3, none⟩ _ (Nat.le_refl _) (Nat.lt_succ_self _))) (Nat.le_refl _)⟩

set_option maxHeartbeats 2000000 in
theorem set_in (p : Nat) (v : Pr) (H : RegMem w rb ro pb po b g n S V) (hp : p < n) (hS : S p = true) :
    Calls Tryd.prog 23 #[.pointer (some ⟨rb, ro, none⟩), .int .i64 p, v.val] w fun e w' => e = .returned (.bool true) ∧ Touch g pb po (n * 4) w w' ∧ RegMem w' rb ro pb po b g n S (upV V p v) := by
  have ka := World.grownBy_alloc w (.cells #[.int .i64 v.g, .int .u64 v.k, .int .u64 v.i, .int .u64 v.r] 33) none
  have Ha := H.kept ka
  have h1 := Ha.c1
  have C2 := Lib.hid (has_g b g n p S _ Ha.set true (Or.inl ⟨by omega, by omega, by simpa using hS⟩))
  have HH := Lib.hid Ha
  have HW := Lib.hid H
  have KA := Lib.hid ka
  have bx : Hid (∀ v1 : World, (w.alloc (.cells #[.int .i64 v.g, .int .u64 v.k, .int .u64 v.i, .int .u64 v.r] 33)).grownBy v1 none → PlaceAt v1 w.heap.size 0 v) := Lib.hid fun v1 k1 => by
    have e : ∀ j, v1.cell? ⟨w.heap.size, j, none⟩ = (w.alloc (.cells #[.int .i64 v.g, .int .u64 v.k, .int .u64 v.i, .int .u64 v.r] 33)).cell? ⟨w.heap.size, j, none⟩ := fun j => k1.cell_far ⟨w.heap.size, j, none⟩ (by simp) (by simp)
    refine ⟨(e _).trans ?_, (e _).trans ?_, (e _).trans ?_, (e _).trans ?_⟩ <;> rw [World.cell?_alloc_new] <;> rfl
  have hn := H.hn
  clear H Ha ka
  unfold Pr.val
  go_enter Tryd.func23, Tryd.ntmps23
  go_wp2_with fail
  refine C2.out.mono ?_
  rintro e w1 ⟨rfl, k1⟩
  have H1 := HH.out.kept k1
  have T1 : Hid (Touch g pb po (n * 4) w w1) := Lib.hid (Touch.of_none (KA.out.trans k1) HW.out.l.2)
  obtain ⟨b1, b2, b3, b4⟩ := bx.out w1 k1
  have kd : w1.grownBy w1.drew none := ⟨rfl, rfl, rfl, Nat.le_refl _, fun _ _ _ => rfl⟩
  have H2 := H1.kept kd
  have T2 : Hid (Touch g pb po (n * 4) w1 w1.drew) := Lib.hid (Touch.of_none kd H1.l.2)
  have c1 : w1.drew.cell? ⟨w.heap.size, 0, none⟩ = some (.int .i64 v.g) := b1
  have c2 : w1.drew.cell? ⟨w.heap.size, 0 + 1, none⟩ = some (.int .u64 v.k) := b2
  have c3 : w1.drew.cell? ⟨w.heap.size, 0 + 2, none⟩ = some (.int .u64 v.i) := b3
  have c4 : w1.drew.cell? ⟨w.heap.size, 0 + 3, none⟩ = some (.int .u64 v.r) := b4
  clear k1 HH C2 h1 hS bx HW KA b1 b2 b3 b4 kd H1
  go_wp2_with fail
  refine wp_region_still_tail 7 (by kernel_rfl) (by kernel_rfl) ?_
  simp only [List.take_succ_cons, List.take_zero, List.drop_succ_cons, List.drop_zero]
  change wpStill _ _ w1.drew (fun a' => wpList _ _ _ _ a' w1.drew) _ _
  generalize w1.drew = w2 at H2 T2 c1 c2 c3 c4 ⊢
  have h0 := H2.c0
  obtain ⟨v1, v2, v3, v4⟩ := H2.cv p hp
  obtain ⟨f1, f2, f3, f4⟩ := H2.fv p hp
  have H3 := Lib.hid (H2.setV p hp v)
  have T3 : Hid (Touch g pb po (n * 4) w2 (put4 w2 pb (po + p * 4) v)) := Lib.hid (put4_touch w2 _ v (by omega) (by omega))
  have q1 : 0 ≤ (p : Int) := by omega
  have q2 : (p : Int) < (n : Int) := by omega
  clear H2
  repeat still_step
  refine wpStill_nil ?_
  go_wp2
  go_ret
  exact ⟨rfl, (T1.out.trans T2.out).trans T3.out, H3.out⟩
theorem set_no (k : Int) (v : Pr) (H : RegMem w rb ro pb po b g n S V) (hv : k < 0 ∨ (n : Int) ≤ k ∨ S k.toNat = false) :
    Calls Tryd.prog 23 #[.pointer (some ⟨rb, ro, none⟩), .int .i64 k, v.val] w fun e w' => e = .returned (.bool false) ∧ w.grownBy w' none := by
  have ka := World.grownBy_alloc w (.cells #[.int .i64 v.g, .int .u64 v.k, .int .u64 v.i, .int .u64 v.r] 33) none
  have Ha := H.kept ka
  have h1 := Ha.c1
  have C2 := Lib.hid (has_g b g n k S _ Ha.set false (by
    by_cases h : 0 ≤ k ∧ k < n
    · refine Or.inl ⟨h.1, h.2, ?_⟩
      rcases hv with h2 | h2 | h2
      · omega
      · omega
      · exact h2
    · exact Or.inr ⟨by omega, rfl⟩))
  have KA := Lib.hid ka
  clear H hv Ha ka
  unfold Pr.val
  go_enter Tryd.func23, Tryd.ntmps23
  go_wp2_with fail
  refine C2.out.mono ?_
  rintro e w1 ⟨rfl, k1⟩
  go_wp2
  go_ret
  exact ⟨rfl, grow_to KA.out k1⟩
end
end Go.Proofs.YtkkodhjolgcokaaDoor.SA
/-
  Contracts of package slab for rows of timers, over this seat's translation: New.
-/
namespace Go.Proofs.YtkkodhjolgcokaaDoor.SA
open Go.RowKit Go.Lib
set_option maxRecDepth 100000

/-- Where a region's places begin. -/
def poff (n : Nat → Nat) (t : Nat) : Nat := if n t = 0 then 0 else pre n t * 4

/-- While the regions are being made: the first i of m stand. -/
structure Pre (w : World) (sb rb pb m i : Nat) (n : Nat → Nat) (b g : Nat → Nat) : Prop where
  c0 : w.cell? ⟨sb, 0, none⟩ = some (.slice (some ⟨rb, 0, none⟩) i m)
  f0 : w.frozen? ⟨sb, 0, none⟩ = false
  reg : ∀ t, t < i → RegMem w rb (2 * t) pb (poff n t) (b t) (g t) (n t) (fun _ => false) (fun _ => Pr.none)
  spare : ∀ j, j < 2 * m → (w.cell? ⟨rb, j, none⟩).isSome = true ∧ w.frozen? ⟨rb, j, none⟩ = false
  pl : ∀ j, j < pre n m → PlaceAt w pb (j * 4) Pr.none ∧ FreeAt w pb (j * 4)
  d : sb ≠ rb ∧ sb ≠ pb ∧ rb ≠ pb
  l : sb < w.heap.size ∧ rb < w.heap.size ∧ pb < w.heap.size
  ord : ∀ t, t < i → sb < g t ∧ rb < g t ∧ pb < g t ∧ g t < b t
  inc : ∀ s t, s < t → t < i → b s < g t

theorem Pre.kept {w w' : World} {sb rb pb m i : Nat} {n b g : Nat → Nat} (H : Pre w sb rb pb m i n b g) (k : w.grownBy w' none) : Pre w' sb rb pb m i n b g :=
  ⟨(k.cell_far ⟨sb, 0, none⟩ H.l.1 (by simp)).trans H.c0, (k.frozen_far ⟨sb, 0, none⟩ H.l.1 (by simp)).trans H.f0, fun t ht => (H.reg t ht).kept k,
    fun j hj => ⟨by rw [k.cell_far ⟨rb, j, none⟩ H.l.2.1 (by simp)]; exact (H.spare j hj).1, (k.frozen_far ⟨rb, j, none⟩ H.l.2.1 (by simp)).trans (H.spare j hj).2⟩,
    fun j hj => ⟨(H.pl j hj).1.of fun _ _ => k.cell_far ⟨pb, _, none⟩ H.l.2.2 (by simp), (H.pl j hj).2.of fun _ _ => k.frozen_far ⟨pb, _, none⟩ H.l.2.2 (by simp)⟩, H.d, ⟨Nat.lt_of_lt_of_le H.l.1 k.size, Nat.lt_of_lt_of_le H.l.2.1 k.size, Nat.lt_of_lt_of_le H.l.2.2 k.size⟩, H.ord, H.inc⟩

theorem reg_info : ∃ i : TypeInfo, Tryd.prog.info? 70 = some i ∧ i.zero = some (.agg #[.slice none 0 0, .pointer none]) ∧ i.size = 2 ∧ i.bytes = 32 := ⟨_, rfl, rfl, rfl, rfl⟩
theorem make_regs (c : Nat) (hc : c ≤ 64) (w : World) :
    (Instr.makeSlice 64 (.int .i64 0) (.int .i64 (c : Int))).run Tryd.prog w =
      .ok (.slice (some ⟨w.heap.size, 0, none⟩) 0 c) (w.alloc (.cells (madeCells #[.slice none 0 0, .pointer none] (c * 2)) 70)) := by
  obtain ⟨i, hi, hz, hs, hb⟩ := reg_info
  have h := run_make (P := Tryd.prog) w 64 70 i _ Tryd.underlying64 hi hz .i64 .i64 0 (c : Int) (by omega) (by omega) (by rw [hb]; omega) (by omega)
  rw [hs, Int.toNat_natCast] at h
  exact h

theorem row_info : ∃ i : TypeInfo, Tryd.prog.info? 33 = some i ∧ i.zero = some (.agg #[.int .i64 0, .int .u64 0, .int .u64 0, .int .u64 0]) ∧ i.size = 4 ∧ i.bytes = 32 := ⟨_, rfl, rfl, rfl, rfl⟩
theorem make_rows (c : Nat) (hc : c ≤ 1000000) (w : World) :
    (Instr.makeSlice 62 (.int .i64 (c : Int)) (.int .i64 (c : Int))).run Tryd.prog w =
      .ok (.slice (some ⟨w.heap.size, 0, none⟩) c c) (w.alloc (.cells (madeCells #[.int .i64 0, .int .u64 0, .int .u64 0, .int .u64 0] (c * 4)) 33)) := by
  obtain ⟨i, hi, hz, hs, hb⟩ := row_info
  have h := run_make (P := Tryd.prog) w 62 33 i _ Tryd.underlying62 hi hz .i64 .i64 (c : Int) (c : Int) (by omega) (by omega) (by rw [hb]; omega) (by omega)
  rw [hs, Int.toNat_natCast] at h
  exact h

/-- A region more stands: its set is made, its struct is laid into the row, the row's length is told. -/
theorem Pre.step {w w1 w2 : World} {sb rb pb m i b0 g0 : Nat} {n b g : Nat → Nat} (H : Pre w sb rb pb m i n b g) (him : i < m) (hn : n i ≤ 256) (k1 : w.grownBy w1 none) (hs : SetAt w1 b0 g0 (n i) (fun _ => false)) (hg0 : w.heap.size ≤ g0) (hgb : g0 < b0)
    (k2 : w1.grownBy w2 none) : Pre ((w2.setCells rb (i * 2) [.slice (some ⟨pb, poff n i, none⟩) (n i) (n i), .pointer (some ⟨b0, 0, none⟩)]).setCell ⟨sb, 0, none⟩ (.slice (some ⟨rb, 0, none⟩) (i + 1) m)) sb rb pb m (i + 1) n (fun t => if t = i then b0 else b t) (fun t => if t = i then g0 else g t) := by
  obtain ⟨d1, d2, d3⟩ := H.d
  obtain ⟨l1, l2, l3⟩ := H.l
  have hz1 := k1.size
  have hz2 := k2.size
  have H2 := (H.kept k1).kept k2
  have hs2 := hs.kept k2 (by simp) (by simp)
  have hb0 : b0 < w2.heap.size := hs2.hb
  have hg1 : g0 < w2.heap.size := hs2.hg
  generalize hx : (Value.slice (some ⟨pb, poff n i, none⟩) (n i) (n i)) = x
  generalize hy : (Value.pointer (some ⟨b0, 0, none⟩)) = y
  generalize hq : (Value.slice (some ⟨rb, 0, none⟩) (i + 1) m) = q
  have sp := H2.spare
  have far : ∀ c j, c ≠ rb → c ≠ sb → ((w2.setCells rb (i * 2) [x, y]).setCell ⟨sb, 0, none⟩ q).cell? ⟨c, j, none⟩ = w2.cell? ⟨c, j, none⟩ := fun c j h1 h2 => by
    rw [World.cell?_setCell_other _ _ _ _ (by intro e; cases e; exact h2 rfl), World.cell?_setCells_out _ _ _ _ _ (fun e _ => absurd e h1)]
  have atr : ∀ j, (j < i * 2 ∨ i * 2 + 2 ≤ j) → ((w2.setCells rb (i * 2) [x, y]).setCell ⟨sb, 0, none⟩ q).cell? ⟨rb, j, none⟩ = w2.cell? ⟨rb, j, none⟩ := fun j hj => by
    rw [World.cell?_setCell_other _ _ _ _ (by intro e; cases e; exact d1 rfl), World.cell?_setCells_out _ _ _ _ _ (fun _ _ => by simpa using hj)]
  have inr : ∀ j (hj : j < 2), ((w2.setCells rb (i * 2) [x, y]).setCell ⟨sb, 0, none⟩ q).cell? ⟨rb, i * 2 + j, none⟩ = some ([x, y][j]'(by simpa using hj)) := fun j hj => by
    rw [World.cell?_setCell_other _ _ _ _ (by intro e; injection e with e1 e2; exact d1 e1)]
    exact World.cell?_setCells_in rb [x, y] (i * 2) w2 (fun t ht => (sp _ (by have : t < 2 := ht
                                                                              omega)).1) j hj
  have fz : ∀ a, ((w2.setCells rb (i * 2) [x, y]).setCell ⟨sb, 0, none⟩ q).frozen? a = w2.frozen? a := fun a => by
    rw [World.frozen?_setCell, World.frozen?_setCells]
  have zz : ((w2.setCells rb (i * 2) [x, y]).setCell ⟨sb, 0, none⟩ q).heap.size = w2.heap.size := by
    rw [size_set]; simp [World.setCells]
  have cs : ((w2.setCells rb (i * 2) [x, y]).setCell ⟨sb, 0, none⟩ q).cell? ⟨sb, 0, none⟩ = some q := by
    refine World.cell?_setCell_same' _ _ _ ?_
    rw [World.cell?_setCells_out _ _ _ _ _ (fun e _ => absurd e d1), H2.c0]; rfl
  generalize (w2.setCells rb (i * 2) [x, y]).setCell ⟨sb, 0, none⟩ q = w3 at *
  have setk : ∀ b' g' n' S, SetAt w2 b' g' n' S → b' ≠ rb → b' ≠ sb → g' ≠ rb → g' ≠ sb → SetAt w3 b' g' n' S := fun b' g' n' S h h1 h2 h3 h4 =>
    ⟨h.size, h.bound, (far _ _ h1 h2).trans h.c0, (far _ _ h1 h2).trans h.c1, fun j hj => (far _ _ h3 h4).trans (h.cw j hj), fun j hj => (fz _).trans (h.cf j hj), h.bg, by rw [zz]; exact h.hb, by rw [zz]; exact h.hg⟩
  refine ⟨by rw [cs, ← hq], (fz _).trans H2.f0, fun t ht => ?_, fun j hj => ⟨?_, (fz _).trans (sp j hj).2⟩, fun j hj => ⟨(H2.pl j hj).1.of fun _ _ => far _ _ (Ne.symm d3) (Ne.symm d2), (H2.pl j hj).2.of fun _ _ => fz _⟩, H.d, by rw [zz]; omega, fun t ht => ?_, fun s t hst ht => ?_⟩
  · by_cases e : t = i
    · subst e
      simp only [if_true]
      have hp : pre n (t + 1) ≤ pre n m := pre_mono n (t + 1) m (by omega)
      rw [pre_succ] at hp
      have ho : ∀ j, j < n t → poff n t + j * 4 = (pre n t + j) * 4 ∧ pre n t + j < pre n m := fun j hj => by
        unfold poff; rw [if_neg (by omega)]; omega
      refine ⟨?_, ?_, fun j hj => by rw [(ho j hj).1]; exact (H2.pl _ (ho j hj).2).1.of fun _ _ => far _ _ (Ne.symm d3) (Ne.symm d2), fun j hj => by rw [(ho j hj).1]; exact (H2.pl _ (ho j hj).2).2.of fun _ _ => fz _, setk _ _ _ _ hs2 (by omega) (by omega) (by omega) (by omega), hn, by omega, by rw [zz]; omega⟩
      · have := inr 0 (by decide)
        rw [show 2 * t = t * 2 + 0 by omega, this, hx]; rfl
      · have := inr 1 (by decide)
        rw [show 2 * t + 1 = t * 2 + 1 by omega, this, hy]; rfl
    · have hti : t < i := by omega
      simp only [if_neg e]
      have R := H2.reg t hti
      obtain ⟨o1, o2, o3, o4⟩ := H.ord t hti
      exact ⟨(atr _ (by omega)).trans R.c0, (atr _ (by omega)).trans R.c1, fun j hj => (R.cv j hj).of fun _ _ => far _ _ (Ne.symm d3) (Ne.symm d2), fun j hj => (R.fv j hj).of fun _ _ => fz _, setk _ _ _ _ R.set (by omega) (by omega) (by omega) (by omega), R.hn, R.d, by rw [zz]; exact R.l⟩
  · by_cases h1 : j < i * 2 ∨ i * 2 + 2 ≤ j
    · rw [atr j h1]; exact (sp j hj).1
    · obtain ⟨c, rfl⟩ : ∃ c, j = i * 2 + c := ⟨j - i * 2, by omega⟩
      rw [inr c (by omega)]; rfl
  · by_cases e : t = i
    · subst e; simp only [if_true]; omega
    · simp only [if_neg e]; exact H.ord t (by omega)
  · by_cases e : t = i
    · subst e
      have hne : s ≠ t := by omega
      simp only [if_true, if_neg hne]
      have := (H2.reg s (by omega)).set.hb
      have h3 := (H.reg s (by omega)).set.hb
      omega
    · have hne : s ≠ i := by omega
      simp only [if_neg e, if_neg hne]
      exact H.inc s t hst (by omega)

theorem pre_start (w : World) (m : Nat) (n : Nat → Nat) (b g : Nat → Nat) :
    Pre (((w.alloc (.cells (madeCells #[.int .i64 0, .int .u64 0, .int .u64 0, .int .u64 0] (pre n m * 4)) 33)).alloc (.cells (madeCells #[.slice none 0 0, .pointer none] (m * 2)) 70)).alloc (.cells #[.slice (some ⟨w.heap.size + 1, 0, none⟩) 0 m] 66))
      (w.heap.size + 1 + 1) (w.heap.size + 1) w.heap.size m 0 n b g := by
  generalize hA : (Obj.cells (madeCells #[.int .i64 0, .int .u64 0, .int .u64 0, .int .u64 0] (pre n m * 4)) 33) = A
  generalize hB : (Obj.cells (madeCells #[.slice none 0 0, .pointer none] (m * 2)) 70) = B
  generalize hC : (Obj.cells #[.slice (some ⟨w.heap.size + 1, 0, none⟩) 0 m] 66) = C
  have e : (((w.alloc A).alloc B).alloc C).heap = ((w.heap.push A).push B).push C := rfl
  have f0 : (((w.alloc A).alloc B).alloc C).heap[w.heap.size]? = some A := by
    rw [e]; simp only [Array.getElem?_push, Array.size_push]; rw [if_neg (by omega), if_neg (by omega), if_pos trivial]
  have f1 : (((w.alloc A).alloc B).alloc C).heap[w.heap.size + 1]? = some B := by
    rw [e]; simp only [Array.getElem?_push, Array.size_push]; rw [if_neg (by omega), if_pos trivial]
  have f2 : (((w.alloc A).alloc B).alloc C).heap[w.heap.size + 1 + 1]? = some C := by
    rw [e]; simp only [Array.getElem?_push, Array.size_push]; rw [if_pos trivial]
  have fs : (((w.alloc A).alloc B).alloc C).heap.size = w.heap.size + 3 := by rw [e]; simp
  generalize ((w.alloc A).alloc B).alloc C = w3 at f0 f1 f2 fs
  subst hA hB hC
  refine ⟨by rw [World.cell?]; simp only [f2]; rfl, by rw [World.frozen?]; simp only [f2]; rfl, fun t ht => absurd ht (by omega), fun j hj => ⟨?_, by rw [World.frozen?]; simp only [f1]; simp⟩, fun j hj => ⟨?_, by refine ⟨?_, ?_, ?_, ?_⟩ <;> (rw [World.frozen?]; simp only [f0]; simp)⟩, by omega, by omega, fun t ht => absurd ht (by omega), fun s t _ ht => absurd ht (by omega)⟩
  · rw [World.cell?]; simp only [f1]
    simp [madeCells, show j < m * 2 by omega]
  · refine ⟨?_, ?_, ?_, ?_⟩
    · rw [World.cell?]; simp only [f0]
      simp [madeCells, show j * 4 < pre n m * 4 by omega, show j * 4 % 4 = 0 by omega, Pr.none]
    · rw [World.cell?]; simp only [f0]
      simp [madeCells, show j * 4 + 1 < pre n m * 4 by omega, show (j * 4 + 1) % 4 = 1 by omega, Pr.none]
    · rw [World.cell?]; simp only [f0]
      simp [madeCells, show j * 4 + 2 < pre n m * 4 by omega, show (j * 4 + 2) % 4 = 2 by omega, Pr.none]
    · rw [World.cell?]; simp only [f0]
      simp [madeCells, show j * 4 + 3 < pre n m * 4 by omega, show (j * 4 + 3) % 4 = 3 by omega, Pr.none]

set_option maxHeartbeats 8000000 in
theorem new_any (sa : Option Addr) (len cap : Nat) (zs : Nat → Int) (w : World) (h : CapsAt w sa len cap zs) :
    Calls Tryd.prog 18 #[.slice sa len cap] w fun e w' => ∃ sb rb pb b g, e = .returned (.pointer (some ⟨sb, 0, none⟩)) ∧ w.grownBy w' none ∧ w.heap.size ≤ sb ∧ w.heap.size ≤ rb ∧ w.heap.size ≤ pb ∧ Pre w' sb rb pb (min len 64) (min len 64) (nOf zs) b g := by
  have c1 := roomsOf_any sa len cap zs w h
  have hm64 : min len 64 ≤ 64 := by omega
  generalize min len 64 = m at *
  have C1 := Lib.hid c1
  clear c1 h
  go_enter Tryd.func18, Tryd.ntmps18
  go_wp2_with fail
  refine C1.out.mono ?_
  rintro e w1 ⟨r, cp, rfl, k1, R1⟩
  have C2 := Lib.hid (sum_any w.heap.size r cp m zs w1 R1 hm64)
  clear C1
  go_wp2_with fail
  refine (C2.out).mono ?_
  rintro e w' ⟨rfl, rfl⟩
  have htot : pre (nOf zs) m ≤ 16384 := by have := pre_le (nOf zs) (fun t => roomN_le (zs t)) m; omega
  have m1 : ∀ W : World, (Instr.makeSlice 62 (.int .i64 (pre (nOf zs) m : Nat)) (.int .i64 (pre (nOf zs) m : Nat))).run Tryd.prog W = _ := fun W => make_rows (pre (nOf zs) m) (by omega) W
  have m2 : ∀ W : World, (Instr.makeSlice 64 (.int .i64 0) (.int .i64 (m : Int))).run Tryd.prog W = _ := fun W => make_regs m hm64 W
  have P0 := pre_start w1 m (nOf zs) (fun _ => 0) (fun _ => 0)
  have k2 := (World.grownBy_alloc w1 (.cells (madeCells #[.int .i64 0, .int .u64 0, .int .u64 0, .int .u64 0] (pre (nOf zs) m * 4)) 33) none).trans ((World.grownBy_alloc _ (.cells (madeCells #[.slice none 0 0, .pointer none] (m * 2)) 70) none).trans (World.grownBy_alloc _ (.cells #[.slice (some ⟨w1.heap.size + 1, 0, none⟩) 0 m] 66) none))
  have hG0 := k1.trans k2
  have RR := R1.kept k2 (by simp)
  have hr := R1.lt
  have hW := k1.size
  go_wp2
  clear m1 m2 C2 k2 R1 k1
  generalize ((w1.alloc (.cells (madeCells #[.int .i64 0, .int .u64 0, .int .u64 0, .int .u64 0] (pre (nOf zs) m * 4)) 33)).alloc (.cells (madeCells #[.slice none 0 0, .pointer none] (m * 2)) 70)).alloc (.cells #[.slice (some ⟨w1.heap.size + 1, 0, none⟩) 0 m] 66) = wz at P0 hG0 RR ⊢
  generalize w1.heap.size = hh at P0 hr hW ⊢
  have hsr : hh + 1 + 1 ≠ hh + 1 ∧ hh + 1 + 1 ≠ hh ∧ hh + 1 ≠ hh ∧ w.heap.size ≤ hh + 1 + 1 ∧ w.heap.size ≤ hh + 1 ∧ hh + 1 < hh + 1 + 1 + 1 ∧ r < hh + 1 := by omega
  generalize hh + 1 + 1 = sb at P0 hsr ⊢
  generalize hh + 1 = rb at P0 hsr ⊢
  have HROOM : Hid (∀ j, nOf zs j ≤ 256) := Lib.hid fun j => roomN_le _
  have HPRE : Hid (∀ j, j < m → pre (nOf zs) (j + 1) = pre (nOf zs) j + nOf zs j ∧ pre (nOf zs) j + nOf zs j ≤ pre (nOf zs) m) := Lib.hid fun j hj => ⟨rfl, pre_mono (nOf zs) (j + 1) m (by omega)⟩
  have HRC : Hid (∀ (wy : World), RowOf wy w.heap.size r cp (rooms zs m) → ∀ j, j < m → wy.cell? ⟨r, j, none⟩ = some (.int .i64 (nOf zs j : Nat))) := Lib.hid fun wy hy j hj => by rw [hy.cell j (by rw [rooms_len]; exact hj), rooms_at zs m j hj]
  go_loopw [6, 22] (fun fv it wr => ∃ (j : Nat) (b g : Nat → Nat), j ≤ m ∧ it = .int .i64 j ∧ fv = .int .i64 (pre (nOf zs) j : Nat) ∧ Pre wr sb rb hh m j (nOf zs) b g ∧ RowOf wr w.heap.size r cp (rooms zs m) ∧ w.grownBy wr none) (fun _ it _ => m - (intOf it).toNat)
  case atStart => exact ⟨0, _, _, Nat.zero_le _, rfl, rfl, P0, RR, hG0⟩
  case round =>
    obtain ⟨j, b, g, hj, rfl, rfl, HP, R, hG⟩ := hrel
    clear P0 RR hG0
    by_cases hlt : j < m
    · have hc := HRC.out wr R j hlt
      have hrm := HROOM.out j
      obtain ⟨hp1, hp2⟩ := HPRE.out j hlt
      have HP1 := Lib.hid hp1
      clear hp1
      have h0 := HP.c0
      have hf0 := HP.f0
      have HPP := Lib.hid HP
      have HRR := Lib.hid R
      have CN : Hid (∀ v : World, Calls Tryd.prog 34 #[.int .i64 (nOf zs j : Nat)] v fun e w' => e = .returned (.pointer (some ⟨v.heap.size + 1, 0, none⟩)) ∧ v.grownBy w' none ∧ SetAt w' (v.heap.size + 1) v.heap.size (nOf zs j) (fun _ => false)) := Lib.hid fun v => by
        have := Go.Proofs.YtkkodhjolgcokaaDoor.new_any (nOf zs j : Nat) v
        rwa [show clampN ((nOf zs j : Nat) : Int) = nOf zs j by unfold clampN; omega] at this
      have SPARE : Hid (∀ w2 : World, wr.drew.grownBy w2 none → ∀ t, t < 2 → (w2.cell? ⟨rb, 0 + j * 2 + t, none⟩).isSome = true ∧ w2.frozen? ⟨rb, 0 + j * 2 + t, none⟩ = false) := Lib.hid fun w2 k t ht => (HPP.out.kept (w' := w2) ⟨k.os, k.tape, k.output, k.size, k.block⟩).spare _ (by omega)
      have SB : Hid (∀ w2 : World, wr.drew.grownBy w2 none → w2.cell? ⟨sb, 0, none⟩ = some (.slice (some ⟨rb, 0, none⟩) j m) ∧ w2.frozen? ⟨sb, 0, none⟩ = false) := Lib.hid fun w2 k => have K := HPP.out.kept (w' := w2) ⟨k.os, k.tape, k.output, k.size, k.block⟩
        ⟨K.c0, K.f0⟩
      clear HP R
      generalize hPj : pre (nOf zs) j = P at *
      generalize hRj : nOf zs j = R at *
      generalize hTj : pre (nOf zs) m = T at *
      have q1 : (0 : Int) ≤ (P : Int) := by omega
      have q2 : (P : Int) ≤ (P : Int) + R := by omega
      have q3 : (P : Int) + R ≤ (T : Int) := by omega
      have q4 : (0 : Int) ≤ (P : Int) + R := by omega
      obtain ⟨j0, hj0, hjz, hjs, hjb⟩ := reg_info
      have J0 := Lib.hid hj0
      have J2 := Lib.hid hjs
      clear hj0 hjz hjs hjb
      have e1 : ((P : Int) + (R : Int)).toNat = P + R := by omega
      have e2 : P + R - P = R := by omega
      have hout : ∀ (W : World) (o : Nat) (vs : List Value), (W.setCells rb o vs).cell? ⟨sb, 0, none⟩ = W.cell? ⟨sb, 0, none⟩ := fun W o vs => World.cell?_setCells_out _ _ _ _ _ (fun e _ => absurd e hsr.1)
      have hfrz : ∀ (W : World) (o : Nat) (vs : List Value), (W.setCells rb o vs).frozen? ⟨sb, 0, none⟩ = W.frozen? ⟨sb, 0, none⟩ := fun W o vs => World.frozen?_setCells _ _ _ _ _
      obtain ⟨O, hO⟩ : ∃ O, O = (if R = 0 then 0 else P * 4) := ⟨_, rfl⟩
      have STEP : Hid (∀ (w2 : World) (o : Obj), wr.drew.grownBy w2 none → SetAt w2 (wr.heap.size + 1) wr.heap.size R (fun _ => false) →
          Pre (((w2.alloc o).setCells rb (j * 2) [.slice (some ⟨hh, O, none⟩) R R, .pointer (some ⟨wr.heap.size + 1, 0, none⟩)]).setCell ⟨sb, 0, none⟩ (.slice (some ⟨rb, 0, none⟩) (j + 1) m)) sb rb hh m (j + 1) (nOf zs) (fun t => if t = j then wr.heap.size + 1 else b t) (fun t => if t = j then wr.heap.size else g t) ∧
          RowOf (((w2.alloc o).setCells rb (j * 2) [.slice (some ⟨hh, O, none⟩) R R, .pointer (some ⟨wr.heap.size + 1, 0, none⟩)]).setCell ⟨sb, 0, none⟩ (.slice (some ⟨rb, 0, none⟩) (j + 1) m)) w.heap.size r cp (rooms zs m) ∧
          w.grownBy (((w2.alloc o).setCells rb (j * 2) [.slice (some ⟨hh, O, none⟩) R R, .pointer (some ⟨wr.heap.size + 1, 0, none⟩)]).setCell ⟨sb, 0, none⟩ (.slice (some ⟨rb, 0, none⟩) (j + 1) m)) none) := Lib.hid fun w2 o k hs => by
        have k1 : wr.grownBy w2 none := ⟨k.os, k.tape, k.output, k.size, k.block⟩
        have hpo : poff (nOf zs) j = O := by unfold poff; rw [hRj, hPj, hO]
        have h3 := HPP.out.step hlt (by rw [hRj]; exact hrm) k1 (by rw [hRj]; exact hs) (Nat.le_refl _) (by omega) (World.grownBy_alloc w2 o none)
        rw [hRj, hpo] at h3
        have ks : Only rb (sb + 1) w2 (((w2.alloc o).setCells rb (j * 2) [.slice (some ⟨hh, O, none⟩) R R, .pointer (some ⟨wr.heap.size + 1, 0, none⟩)]).setCell ⟨sb, 0, none⟩ (.slice (some ⟨rb, 0, none⟩) (j + 1) m)) :=
          (Only.alloc rb (sb + 1) w2 o).trans (((Only.set _ ⟨rb, j * 2, none⟩ _ (Nat.le_refl _) hsr.2.2.2.2.2.1).trans (Only.set _ ⟨rb, j * 2 + 1, none⟩ _ (Nat.le_refl _) hsr.2.2.2.2.2.1)).trans (Only.set _ ⟨sb, 0, none⟩ _ (by have := hsr.2.2.2.2.2.1; show rb ≤ sb; omega) (Nat.lt_succ_self _)))
        exact ⟨h3, (HRR.out.kept k1 (by simp)).only ks (Or.inl (by omega)), Only.on (hG.trans k1) ks hsr.2.2.2.2.1⟩
      by_cases hR0 : R = 0
      focus
        subst hR0
        have qT : (P : Int) ≤ (T : Int) := by omega
        clear e1 e2 q2 q3 q4
        rw [if_pos rfl] at hO
        subst hO
        simp only [Int.natCast_zero] at CN hc
      focus
        skip
      rotate_left
      focus
        rw [if_neg hR0] at hO
        subst hO
      rotate_left
      all_goals
        go_upto_region 18 with fail
        go_region_law (first
          | (refine step_append_room (by rfl) _ _ _ (by rfl) 70 j0 2 Tryd.underlying64 J0.out J2.out rb 0 j m (by rfl) _ 1 1 _ (by rfl) (by rfl) (cell_two_new _ _ _ _) (fun u hu => by simp at hu; rcases hu with rfl | rfl <;> rfl) (by omega) (SPARE.out _ (grow_to ‹wr.drew.grownBy _ none› (World.grownBy_alloc _ _ none))) ?_)
          | (go_simp; go_at_call 34; refine (CN.out _).mono ?_; rintro e w2 ⟨rfl, k2, hs2⟩; have hs0 := (SB.out _ k2).1; have hal := fun o : Obj => (SB.out _ (grow_to k2 (World.grownBy_alloc w2 o none))).1; have haf := fun o : Obj => (SB.out _ (grow_to k2 (World.grownBy_alloc w2 o none))).2))
      all_goals
        clear hout hfrz hal haf hs0 SPARE SB CN
        go_wp2
        exact ⟨⟨j + 1, _, _, by omega, by go_num, by rw [HP1.out]; go_num, (STEP.out w2 _ k2 hs2).1, (STEP.out w2 _ k2 hs2).2.1, (STEP.out w2 _ k2 hs2).2.2⟩, by simp [intOf]; omega⟩
    · have e : j = m := by omega
      subst e
      go_wp2
      go_ret
      exact ⟨_, _, _, b, g, rfl, hG, by omega, by omega, by omega, HP⟩

end Go.Proofs.YtkkodhjolgcokaaDoor.SA
/-
  A slab of rows of timers as a whole, over this seat's translation: its regions, which are apart; New, Regions, Region.
-/
namespace Go.Proofs.YtkkodhjolgcokaaDoor.SA
open Go.RowKit Go.Lib
set_option maxRecDepth 100000

/-- A slab: the struct in block sb, the row of regions in block rb; all its blocks lie from lo on, below hi. -/
structure SlabMem (w : World) (lo hi sb rb pb m : Nat) (n po b g : Nat → Nat) (S : Nat → Nat → Bool) (V : Nat → Nat → Pr) : Prop where
  c0 : w.cell? ⟨sb, 0, none⟩ = some (.slice (some ⟨rb, 0, none⟩) m m)
  reg : ∀ i, i < m → RegMem w rb (2 * i) pb (po i) (b i) (g i) (n i) (S i) (V i)
  apart : ∀ i j, i < m → j < m → i ≠ j → b i ≠ g j ∧ g i ≠ g j ∧ (po i + n i * 4 ≤ po j ∨ po j + n j * 4 ≤ po i)
  sbd : sb ≠ pb ∧ ∀ i, i < m → sb ≠ g i
  r0 : lo ≤ sb ∧ sb < hi ∧ lo ≤ rb ∧ rb < hi ∧ lo ≤ pb ∧ pb < hi ∧ hi ≤ w.heap.size
  r1 : ∀ i, i < m → lo ≤ b i ∧ b i < hi ∧ lo ≤ g i ∧ g i < hi
def SlabAt (w : World) (lo hi sb rb m : Nat) (n : Nat → Nat) (S : Nat → Nat → Bool) (V : Nat → Nat → Pr) : Prop := ∃ pb po b g, SlabMem w lo hi sb rb pb m n po b g S V

theorem SlabAt.kept {w w' : World} {lo hi sb rb m : Nat} {n : Nat → Nat} {S : Nat → Nat → Bool} {V : Nat → Nat → Pr} {l h : Nat} (H : SlabAt w lo hi sb rb m n S V) (k : Only l h w w') (hd : hi ≤ l ∨ h ≤ lo) : SlabAt w' lo hi sb rb m n S V := by
  obtain ⟨pb, po, b, g, H⟩ := H
  obtain ⟨a1, a2, a3, a4, a5, a6, a7⟩ := H.r0
  refine ⟨pb, po, b, g, (k.cell' sb 0 (by omega) (by omega)).trans H.c0, fun i hi' => ?_, H.apart, H.sbd, ⟨a1, a2, a3, a4, a5, a6, Nat.le_trans a7 k.size⟩, H.r1⟩
  have := H.r1 i hi'
  exact (H.reg i hi').only k (by omega) (by omega) (by omega) (by omega)
theorem SlabAt.grown {w w' : World} {lo hi sb rb m : Nat} {n : Nat → Nat} {S : Nat → Nat → Bool} {V : Nat → Nat → Pr} (H : SlabAt w lo hi sb rb m n S V) (k : w.grownBy w' none) : SlabAt w' lo hi sb rb m n S V :=
  H.kept (Only.of_none (lo := 0) (hi := 0) k) (Or.inr (Nat.zero_le _))
theorem SlabAt.sz {w : World} {lo hi sb rb m : Nat} {n : Nat → Nat} {S : Nat → Nat → Bool} {V : Nat → Nat → Pr} (H : SlabAt w lo hi sb rb m n S V) : hi ≤ w.heap.size := by
  obtain ⟨pb, po, b, g, H⟩ := H
  exact H.r0.2.2.2.2.2.2

/-- A region of a slab, and what may be done in it: behind it the slab is one again. -/
theorem SlabAt.region {w : World} {lo hi sb rb m : Nat} {n : Nat → Nat} {S : Nat → Nat → Bool} {V : Nat → Nat → Pr} (H : SlabAt w lo hi sb rb m n S V) (k : Nat) (hk : k < m) :
    ∃ pb po b g, RegMem w rb (2 * k) pb po b g (n k) (S k) (V k) ∧ ∀ w' S' V', Touch g pb po (n k * 4) w w' → RegMem w' rb (2 * k) pb po b g (n k) S' V' → Only lo hi w w' ∧ SlabAt w' lo hi sb rb m n (upV S k S') (upV V k V') := by
  obtain ⟨pb, po, b, g, H⟩ := H
  obtain ⟨a1, a2, a3, a4, a5, a6, a7⟩ := H.r0
  have hr := H.r1 k hk
  refine ⟨pb, po k, b k, g k, H.reg k hk, fun w' S' V' T R => ⟨T.only ⟨hr.2.2.1, hr.2.2.2⟩ ⟨a5, a6⟩, pb, po, b, g, (T.far sb 0 (by omega) (H.sbd.2 k hk) H.sbd.1).trans H.c0, fun i hi' => ?_, H.apart, H.sbd, ⟨a1, a2, a3, a4, a5, a6, Nat.le_trans a7 T.size⟩, H.r1⟩⟩
  by_cases e : i = k
  · subst e; rw [upV_same, upV_same]; exact R
  · rw [upV_other _ _ _ _ e, upV_other _ _ _ _ e]
    obtain ⟨b1, b2, b3⟩ := H.apart i k hi' hk e
    exact (H.reg i hi').touch T (H.reg k hk).d.2.2.1 b1 b2 b3
theorem grow_refl (w : World) : w.grownBy w none := ⟨rfl, rfl, rfl, Nat.le_refl _, fun _ _ _ => rfl⟩
theorem upV_self {α : Type} (f : Nat → α) (k : Nat) : upV f k (f k) = f := by
  funext i; by_cases e : i = k
  · subst e; exact upV_same _ _ _
  · exact upV_other _ _ _ _ e

theorem slab_of_pre {w : World} {lo sb rb pb m : Nat} {n b g : Nat → Nat} (H : Pre w sb rb pb m m n b g) (h1 : lo ≤ sb) (h2 : lo ≤ rb) (h3 : lo ≤ pb) : SlabAt w lo w.heap.size sb rb m n (fun _ _ => false) (fun _ _ => Pr.none) := by
  obtain ⟨l1, l2, l3⟩ := H.l
  refine ⟨pb, poff n, b, g, H.c0, H.reg, fun i j hi hj hne => ?_, ⟨H.d.2.1, fun i hi => by have := H.ord i hi; omega⟩, by omega, fun i hi => ?_⟩
  · have oi := H.ord i hi
    have oj := H.ord j hj
    have hsep : poff n i + n i * 4 ≤ poff n j ∨ poff n j + n j * 4 ≤ poff n i := by
      unfold poff
      by_cases zi : n i = 0
      · rw [if_pos zi]; omega
      · by_cases zj : n j = 0
        · rw [if_pos zj]; omega
        · rw [if_neg zi, if_neg zj]
          rcases Nat.lt_or_gt_of_ne hne with h | h
          · have := pre_mono n (i + 1) j h
            rw [pre_succ] at this; omega
          · have := pre_mono n (j + 1) i h
            rw [pre_succ] at this; omega
    rcases Nat.lt_or_gt_of_ne hne with h | h
    · have := H.inc i j h hj
      exact ⟨by omega, by omega, hsep⟩
    · have := H.inc j i h hi
      exact ⟨by omega, by omega, hsep⟩
  · have o := H.ord i hi
    have hb := (H.reg i hi).set.hb
    have hg := (H.reg i hi).set.hg
    omega

theorem new_made (sa : Option Addr) (len cap : Nat) (zs : Nat → Int) (w : World) (h : CapsAt w sa len cap zs) :
    Calls Tryd.prog 18 #[.slice sa len cap] w fun e w' => ∃ sb rb, e = .returned (.pointer (some ⟨sb, 0, none⟩)) ∧ w.grownBy w' none ∧ SlabAt w' w.heap.size w'.heap.size sb rb (min len 64) (nOf zs) (fun _ _ => false) (fun _ _ => Pr.none) :=
  (new_any sa len cap zs w h).mono fun _ _ ⟨sb, rb, _, _, _, he, hg, h1, h2, h3, hp⟩ => ⟨sb, rb, he, hg, slab_of_pre hp h1 h2 h3⟩

section
variable {w : World} {lo hi sb rb m : Nat} {n : Nat → Nat} {S : Nat → Nat → Bool} {V : Nat → Nat → Pr}
theorem region_in (k : Nat) (H : SlabAt w lo hi sb rb m n S V) (hk : k < m) : Calls Tryd.prog 19 #[.pointer (some ⟨sb, 0, none⟩), .int .i64 k] w fun e w' => e = .returned (.pointer (some ⟨rb, 2 * k, none⟩)) ∧ w.grownBy w' none := by
  obtain ⟨pb, po, b, g, H⟩ := H
  have h0 := H.c0
  clear H
  have q : (k : Int) < (m : Int) := by omega
  have e2 : 0 + k * 2 = 2 * k := by omega
  go_enter Tryd.func19, Tryd.ntmps19
  go_wp2
  go_ret
  exact ⟨by simp [Nat.mul_comm], grow_refl _⟩
theorem region_out (k : Int) (H : SlabAt w lo hi sb rb m n S V) (hk : k < 0 ∨ (m : Int) ≤ k) : Calls Tryd.prog 19 #[.pointer (some ⟨sb, 0, none⟩), .int .i64 k] w fun e w' => e = .returned (.pointer none) ∧ w.grownBy w' none := by
  obtain ⟨pb, po, b, g, H⟩ := H
  have h0 := H.c0
  clear H
  by_cases h : k < 0
  · go_enter Tryd.func19, Tryd.ntmps19
    go_wp2
    go_ret
    exact ⟨rfl, grow_refl _⟩
  · have h1 : 0 ≤ k := by omega
    have h2 : (m : Int) ≤ k := by omega
    clear hk h
    go_enter Tryd.func19, Tryd.ntmps19
    go_wp2
    go_ret
    exact ⟨rfl, grow_refl _⟩
end
end Go.Proofs.YtkkodhjolgcokaaDoor.SA
