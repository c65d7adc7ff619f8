/-
  Contracts of package slab for regions of rows of timers, over this seat's translation: how a region lies in memory, and what each call answers and leaves.
-/
import Derived.Test.YtkkodhjolgcokaaDoorTouch
namespace Go.Proofs.YtkkodhjolgcokaaDoor.SA
open Go.RowKit Go.Lib
set_option maxRecDepth 100000

/-- A row: a generation, and what it stands for. -/
structure Pr where
  g : Int
  k : Int
  i : Int
  r : Int
/-- A row as a value. -/
def Pr.val (p : Pr) : Value := .agg #[.int .i64 p.g, .int .u64 p.k, .int .u64 p.i, .int .u64 p.r]
def Pr.none : Pr := ⟨0, 0, 0, 0⟩
/-- Four cells of a block hold a row. -/
def PlaceAt (w : World) (c o : Nat) (p : Pr) : Prop := w.cell? ⟨c, o, Option.none⟩ = some (.int .i64 p.g) ∧ w.cell? ⟨c, o + 1, Option.none⟩ = some (.int .u64 p.k) ∧ w.cell? ⟨c, o + 2, Option.none⟩ = some (.int .u64 p.i) ∧ w.cell? ⟨c, o + 3, Option.none⟩ = some (.int .u64 p.r)
def FreeAt (w : World) (c o : Nat) : Prop := w.frozen? ⟨c, o, Option.none⟩ = false ∧ w.frozen? ⟨c, o + 1, Option.none⟩ = false ∧ w.frozen? ⟨c, o + 2, Option.none⟩ = false ∧ w.frozen? ⟨c, o + 3, Option.none⟩ = false
theorem PlaceAt.of {w w' : World} {c o : Nat} {p : Pr} (h : PlaceAt w c o p) (k : ∀ j, j < 4 → w'.cell? ⟨c, o + j, Option.none⟩ = w.cell? ⟨c, o + j, Option.none⟩) : PlaceAt w' c o p :=
  ⟨(k 0 (by decide)).trans h.1, (k 1 (by decide)).trans h.2.1, (k 2 (by decide)).trans h.2.2.1, (k 3 (by decide)).trans h.2.2.2⟩
theorem FreeAt.of {w w' : World} {c o : Nat} (h : FreeAt w c o) (k : ∀ j, j < 4 → w'.frozen? ⟨c, o + j, Option.none⟩ = w.frozen? ⟨c, o + j, Option.none⟩) : FreeAt w' c o :=
  ⟨(k 0 (by decide)).trans h.1, (k 1 (by decide)).trans h.2.1, (k 2 (by decide)).trans h.2.2.1, (k 3 (by decide)).trans h.2.2.2⟩
/-- A row is stored. -/
def put4 (w : World) (c o : Nat) (p : Pr) : World := (((w.setCell ⟨c, o, Option.none⟩ (.int .i64 p.g)).setCell ⟨c, o + 1, Option.none⟩ (.int .u64 p.k)).setCell ⟨c, o + 2, Option.none⟩ (.int .u64 p.i)).setCell ⟨c, o + 3, Option.none⟩ (.int .u64 p.r)

/-- A region: its struct in block rb from ro on, its places in block pb from po on, its set in blocks b and g. -/
structure RegMem (w : World) (rb ro pb po b g n : Nat) (S : Nat → Bool) (V : Nat → Pr) : Prop where
  c0 : w.cell? ⟨rb, ro, none⟩ = some (.slice (some ⟨pb, po, none⟩) n n)
  c1 : w.cell? ⟨rb, ro + 1, none⟩ = some (.pointer (some ⟨b, 0, none⟩))
  cv : ∀ j, j < n → PlaceAt w pb (po + j * 4) (V j)
  fv : ∀ j, j < n → FreeAt w pb (po + j * 4)
  set : SetAt w b g n S
  hn : n ≤ 256
  d : rb ≠ pb ∧ rb ≠ b ∧ rb ≠ g ∧ pb ≠ b ∧ pb ≠ g
  l : rb < w.heap.size ∧ pb < w.heap.size

section
variable {w : World} {rb ro pb po b g n : Nat} {S : Nat → Bool} {V : Nat → Pr}

theorem RegMem.only {w' : World} {lo hi : Nat} (H : RegMem w rb ro pb po b g n S V) (k : Only lo hi w w') (h1 : rb < lo ∨ hi ≤ rb) (h2 : pb < lo ∨ hi ≤ pb) (h3 : b < lo ∨ hi ≤ b) (h4 : g < lo ∨ hi ≤ g) : RegMem w' rb ro pb po b g n S V :=
  ⟨(k.cell' rb _ H.l.1 h1).trans H.c0, (k.cell' rb _ H.l.1 h1).trans H.c1, fun j hj => (H.cv j hj).of fun _ _ => k.cell' pb _ H.l.2 h2, fun j hj => (H.fv j hj).of fun _ _ => k.frozen' pb _ H.l.2 h2, H.set.only k h3 h4, H.hn, H.d, ⟨Nat.lt_of_lt_of_le H.l.1 k.size, Nat.lt_of_lt_of_le H.l.2 k.size⟩⟩
theorem RegMem.kept {w' : World} (H : RegMem w rb ro pb po b g n S V) (k : w.grownBy w' none) : RegMem w' rb ro pb po b g n S V :=
  H.only (Only.of_none (lo := 0) (hi := 0) k) (Or.inr (by omega)) (Or.inr (by omega)) (Or.inr (by omega)) (Or.inr (by omega))
/-- Another region of the same slab stays as it is. -/
theorem RegMem.touch {w' : World} {g' po' n' : Nat} (H : RegMem w rb ro pb po b g n S V) (k : Touch g' pb po' n' w w') (h1 : rb ≠ g') (h2 : b ≠ g') (h3 : g ≠ g') (h4 : po + n * 4 ≤ po' ∨ po' + n' ≤ po) : RegMem w' rb ro pb po b g n S V :=
  ⟨(k.far rb _ H.l.1 h1 H.d.1).trans H.c0, (k.far rb _ H.l.1 h1 H.d.1).trans H.c1, fun j hj => (H.cv j hj).of fun i hi => k.cell _ (by omega), fun j hj => (H.fv j hj).of fun _ _ => k.frz _, H.set.touch k ⟨h2, fun e => H.d.2.2.2.1 e.symm⟩ ⟨h3, fun e => H.d.2.2.2.2 e.symm⟩, H.hn, H.d, ⟨Nat.lt_of_lt_of_le H.l.1 k.size, Nat.lt_of_lt_of_le H.l.2 k.size⟩⟩
theorem put4_out (w : World) (c o : Nat) (p : Pr) (c' j : Nat) (h : c' ≠ c ∨ j < o ∨ o + 4 ≤ j) : (put4 w c o p).cell? ⟨c', j, none⟩ = w.cell? ⟨c', j, none⟩ := by
  unfold put4
  rw [World.cell?_setCell_other _ _ _ _ (by intro e; injection e with e1 e2; omega), World.cell?_setCell_other _ _ _ _ (by intro e; injection e with e1 e2; omega), World.cell?_setCell_other _ _ _ _ (by intro e; injection e with e1 e2; omega), World.cell?_setCell_other _ _ _ _ (by intro e; injection e with e1 e2; omega)]
theorem put4_frz (w : World) (c o : Nat) (p : Pr) (a : Addr) : (put4 w c o p).frozen? a = w.frozen? a := by
  unfold put4
  rw [World.frozen?_setCell, World.frozen?_setCell, World.frozen?_setCell, World.frozen?_setCell]
theorem put4_size (w : World) (c o : Nat) (p : Pr) : (put4 w c o p).heap.size = w.heap.size := by
  unfold put4
  rw [size_set, size_set, size_set, size_set]
theorem put4_in (w : World) (c o : Nat) (p q : Pr) (h : PlaceAt w c o q) : PlaceAt (put4 w c o p) c o p := by
  unfold put4
  refine ⟨?_, ?_, ?_, ?_⟩
  · rw [World.cell?_setCell_other _ _ _ _ (by intro e; injection e with e1 e2; omega), World.cell?_setCell_other _ _ _ _ (by intro e; injection e with e1 e2; omega), World.cell?_setCell_other _ _ _ _ (by intro e; injection e with e1 e2; omega)]
    exact World.cell?_setCell_same _ _ _ h.1
  · rw [World.cell?_setCell_other _ _ _ _ (by intro e; injection e with e1 e2; omega), World.cell?_setCell_other _ _ _ _ (by intro e; injection e with e1 e2; omega)]
    exact World.cell?_setCell_same _ _ _ ((World.cell?_setCell_other _ _ _ _ (by intro e; injection e with e1 e2; omega)).trans h.2.1)
  · rw [World.cell?_setCell_other _ _ _ _ (by intro e; injection e with e1 e2; omega)]
    exact World.cell?_setCell_same _ _ _ (((World.cell?_setCell_other _ _ _ _ (by intro e; injection e with e1 e2; omega)).trans (World.cell?_setCell_other _ _ _ _ (by intro e; injection e with e1 e2; omega))).trans h.2.2.1)
  · exact World.cell?_setCell_same _ _ _ ((((World.cell?_setCell_other _ _ _ _ (by intro e; injection e with e1 e2; omega)).trans (World.cell?_setCell_other _ _ _ _ (by intro e; injection e with e1 e2; omega))).trans (World.cell?_setCell_other _ _ _ _ (by intro e; injection e with e1 e2; omega))).trans h.2.2.2)
theorem put4_touch {g pb po n : Nat} (w : World) (o : Nat) (p : Pr) (h1 : po ≤ o) (h2 : o + 4 ≤ po + n) : Touch g pb po n w (put4 w pb o p) :=
  (((Touch.set w _ _ h1 (by omega)).trans (Touch.set _ _ _ (by omega) (by omega))).trans (Touch.set _ _ _ (by omega) (by omega))).trans (Touch.set _ _ _ (by omega) (by omega))
theorem RegMem.setV (H : RegMem w rb ro pb po b g n S V) (k : Nat) (hk : k < n) (v : Pr) : RegMem (put4 w pb (po + k * 4) v) rb ro pb po b g n S (upV V k v) := by
  obtain ⟨d1, d2, d3, d4, d5⟩ := H.d
  have ot : ∀ c j, c ≠ pb → (put4 w pb (po + k * 4) v).cell? ⟨c, j, none⟩ = w.cell? ⟨c, j, none⟩ := fun c j hc => put4_out _ _ _ _ _ _ (Or.inl hc)
  refine ⟨(ot _ _ d1).trans H.c0, (ot _ _ d1).trans H.c1, fun j hj => ?_, fun j hj => (H.fv j hj).of fun _ _ => put4_frz _ _ _ _ _, ?_, H.hn, H.d, by rw [put4_size]; exact H.l⟩
  · by_cases e : j = k
    · subst e; rw [upV_same]; exact put4_in _ _ _ _ _ (H.cv j hj)
    · rw [upV_other _ _ _ _ e]; exact (H.cv j hj).of fun i hi => put4_out _ _ _ _ _ _ (by omega)
  · have h := H.set
    exact ⟨h.size, h.bound, (ot _ _ (Ne.symm d4)).trans h.c0, (ot _ _ (Ne.symm d4)).trans h.c1, fun j hj => (ot _ _ (Ne.symm d5)).trans (h.cw j hj), fun j hj => (put4_frz _ _ _ _ _).trans (h.cf j hj), h.bg, by rw [put4_size]; exact h.hb, by rw [put4_size]; exact h.hg⟩
/-- The set has turned, the places have not. -/
theorem RegMem.setS {w' : World} {S' : Nat → Bool} (H : RegMem w rb ro pb po b g n S V) (k : w.grownBy w' (some g)) (hs : SetAt w' b g n S') : RegMem w' rb ro pb po b g n S' V := by
  obtain ⟨d1, d2, d3, d4, d5⟩ := H.d
  have e1 : (some rb : Option Nat) ≠ some g := fun h => by cases h; exact d3 rfl
  have e2 : (some pb : Option Nat) ≠ some g := fun h => by cases h; exact d5 rfl
  exact ⟨(k.cell_far ⟨rb, ro, none⟩ H.l.1 e1).trans H.c0, (k.cell_far ⟨rb, ro + 1, none⟩ H.l.1 e1).trans H.c1, fun j hj => (H.cv j hj).of fun _ _ => k.cell_far ⟨pb, _, none⟩ H.l.2 e2, fun j hj => (H.fv j hj).of fun _ _ => k.frozen_far ⟨pb, _, none⟩ H.l.2 e2, hs, H.hn, H.d, ⟨Nat.lt_of_lt_of_le H.l.1 k.size, Nat.lt_of_lt_of_le H.l.2 k.size⟩⟩

theorem room_any (H : RegMem w rb ro pb po b g n S V) : Calls Tryd.prog 36 #[.pointer (some ⟨rb, ro, none⟩)] w fun e w' => e = .returned (.int .i64 (n : Int)) ∧ w = w' := by
  have h0 := H.c0
  clear H
  go_enter Tryd.func36, Tryd.ntmps36
  go_wp2
  go_ret
  exact ⟨rfl, rfl⟩
theorem count_any (H : RegMem w rb ro pb po b g n S V) : Calls Tryd.prog 30 #[.pointer (some ⟨rb, ro, none⟩)] w fun e w' => e = .returned (.int .i64 (cnt S n : Nat)) ∧ w = w' := by
  have h1 := H.c1
  have C := Lib.hid (Go.Proofs.YtkkodhjolgcokaaDoor.count_any b g n S w H.set)
  clear H
  go_enter Tryd.func30, Tryd.ntmps30
  go_wp2_with fail
  refine (C.out).mono ?_
  rintro e w' ⟨rfl, rfl⟩
  go_wp2
  go_ret
  exact ⟨rfl, rfl⟩
set_option maxHeartbeats 2000000 in
theorem take_some (p : Nat) (v : Pr) (H : RegMem w rb ro pb po b g n S V) (hT : TabAt w) (hp : p < n) (hS : S p = false) (hl : ∀ q, q < p → S q = true) :
    Calls Tryd.prog 22 #[.pointer (some ⟨rb, ro, none⟩), v.val] w fun e w' => e = .returned (.tuple #[.int .i64 p, .bool true]) ∧ Touch g pb po (n * 4) w w' ∧ RegMem w' rb ro pb po b g n (ins S p) (upV V p v) := by
  have ka := World.grownBy_alloc w (.cells #[.int .i64 v.g, .int .u64 v.k, .int .u64 v.i, .int .u64 v.r] 33) none
  have Ha := H.kept ka
  have h1 := Ha.c1
  have C1 := Lib.hid (least_some (gap_any b g n 0 S _ Ha.set (hT.kept ka)) p (by simp) hp (by simp [hS]) (fun q _ hq => by simp [hl q hq]))
  have C2 := Lib.hid (put_in b g n p S _ Ha.set hp hS)
  have HH := Lib.hid Ha
  have HW := Lib.hid H
  have KA := Lib.hid ka
  have bx : Hid (∀ v1 : World, (w.alloc (.cells #[.int .i64 v.g, .int .u64 v.k, .int .u64 v.i, .int .u64 v.r] 33)).grownBy v1 (some g) → PlaceAt v1 w.heap.size 0 v) := Lib.hid fun v1 k1 => by
    have hg := H.set.hg
    have e : ∀ j, v1.cell? ⟨w.heap.size, j, none⟩ = (w.alloc (.cells #[.int .i64 v.g, .int .u64 v.k, .int .u64 v.i, .int .u64 v.r] 33)).cell? ⟨w.heap.size, j, none⟩ := fun j => k1.cell_far ⟨w.heap.size, j, none⟩ (by simp) (fun h => absurd (Option.some.inj h) (show w.heap.size ≠ g by omega))
    refine ⟨(e _).trans ?_, (e _).trans ?_, (e _).trans ?_, (e _).trans ?_⟩ <;> rw [World.cell?_alloc_new] <;> rfl
  have hn := H.hn
  clear H hl Ha hT ka
  unfold Pr.val
  go_enter Tryd.func22, Tryd.ntmps22
  go_wp2_with fail
  refine (C1.out).mono ?_
  rintro e w' ⟨rfl, rfl⟩
  go_wp2_with fail
  refine C2.out.mono ?_
  rintro e w1 ⟨rfl, k1, hs1⟩
  have H1 := HH.out.setS k1 hs1
  have hpb : pb < (w.alloc (.cells #[.int .i64 v.g, .int .u64 v.k, .int .u64 v.i, .int .u64 v.r] 33)).heap.size := HH.out.l.2
  have T1 : Hid (Touch g pb po (n * 4) w w1) := Lib.hid ((Touch.of_none KA.out HW.out.l.2).trans (Touch.of_grown k1 hpb HH.out.d.2.2.2.2))
  obtain ⟨b1, b2, b3, b4⟩ := bx.out w1 k1
  have kd : w1.grownBy w1.drew none := ⟨rfl, rfl, rfl, Nat.le_refl _, fun _ _ _ => rfl⟩
  have H2 := H1.kept kd
  have T2 : Hid (Touch g pb po (n * 4) w1 w1.drew) := Lib.hid (Touch.of_none kd H1.l.2)
  have c1 : w1.drew.cell? ⟨w.heap.size, 0, none⟩ = some (.int .i64 v.g) := b1
  have c2 : w1.drew.cell? ⟨w.heap.size, 0 + 1, none⟩ = some (.int .u64 v.k) := b2
  have c3 : w1.drew.cell? ⟨w.heap.size, 0 + 2, none⟩ = some (.int .u64 v.i) := b3
  have c4 : w1.drew.cell? ⟨w.heap.size, 0 + 3, none⟩ = some (.int .u64 v.r) := b4
  clear k1 hs1 HH C1 C2 h1 hS bx HW KA hpb b1 b2 b3 b4 kd H1
  go_wp2_with fail
  refine wp_region_still_tail 7 (by kernel_rfl) (by kernel_rfl) ?_
  simp only [List.take_succ_cons, List.take_zero, List.drop_succ_cons, List.drop_zero]
  change wpStill _ _ w1.drew (fun a' => wpList _ _ _ _ a' w1.drew) _ _
  generalize w1.drew = w2 at H2 T2 c1 c2 c3 c4 ⊢
  have h0 := H2.c0
  obtain ⟨v1, v2, v3, v4⟩ := H2.cv p hp
  obtain ⟨f1, f2, f3, f4⟩ := H2.fv p hp
  have H3 := Lib.hid (H2.setV p hp v)
  have T3 : Hid (Touch g pb po (n * 4) w2 (put4 w2 pb (po + p * 4) v)) := Lib.hid (put4_touch w2 _ v (by omega) (by omega))
  have q1 : 0 ≤ (p : Int) := by omega
  have q2 : (p : Int) < (n : Int) := by omega
  clear H2
  repeat still_step
  refine wpStill_nil ?_
  go_wp2
  go_ret2
  exact ⟨rfl, (T1.out.trans T2.out).trans T3.out, H3.out⟩
theorem take_none (v : Pr) (H : RegMem w rb ro pb po b g n S V) (hT : TabAt w) (hl : ∀ q, q < n → S q = true) :
    Calls Tryd.prog 22 #[.pointer (some ⟨rb, ro, none⟩), v.val] w fun e w' => e = .returned (.tuple #[.int .i64 0, .bool false]) ∧ w.grownBy w' none := by
  have ka := World.grownBy_alloc w (.cells #[.int .i64 v.g, .int .u64 v.k, .int .u64 v.i, .int .u64 v.r] 33) none
  have Ha := H.kept ka
  have h1 := Ha.c1
  have C1 := Lib.hid (least_none (gap_any b g n 0 S _ Ha.set (hT.kept ka)) (fun q _ hq => by simp [hl q hq]))
  have KA := Lib.hid ka
  clear H hl Ha hT ka
  unfold Pr.val
  go_enter Tryd.func22, Tryd.ntmps22
  go_wp2_with fail
  refine (C1.out).mono ?_
  rintro e w' ⟨rfl, rfl⟩
  go_wp2
  go_ret2
  exact ⟨rfl, KA.out⟩

set_option maxHeartbeats 2000000 in
theorem give_in (p : Nat) (H : RegMem w rb ro pb po b g n S V) (hp : p < n) (hS : S p = true) :
    Calls Tryd.prog 31 #[.pointer (some ⟨rb, ro, none⟩), .int .i64 p] w fun e w' => e = .returned (.bool true) ∧ Touch g pb po (n * 4) w w' ∧ RegMem w' rb ro pb po b g n (del S p) (upV V p Pr.none) := by
  have h1 := H.c1
  have C2 := Lib.hid (drop_in b g n p S w H.set hp hS)
  have HH := Lib.hid H
  have hn := H.hn
  clear H
  go_enter Tryd.func31, Tryd.ntmps31
  go_wp2_with fail
  refine C2.out.mono ?_
  rintro e w1 ⟨rfl, k1, hs1⟩
  have H1 := HH.out.setS k1 hs1
  have T1 : Hid (Touch g pb po (n * 4) w w1) := Lib.hid (Touch.of_grown k1 HH.out.l.2 HH.out.d.2.2.2.2)
  have kd : w1.grownBy (w1.alloc (.cells #[.int .i64 0, .int .u64 0, .int .u64 0, .int .u64 0] 33)).drew none := (World.grownBy_alloc w1 (.cells #[.int .i64 0, .int .u64 0, .int .u64 0, .int .u64 0] 33) none).trans ⟨rfl, rfl, rfl, Nat.le_refl _, fun _ _ _ => rfl⟩
  have H2 := H1.kept kd
  have T2 : Hid (Touch g pb po (n * 4) w1 (w1.alloc (.cells #[.int .i64 0, .int .u64 0, .int .u64 0, .int .u64 0] 33)).drew) := Lib.hid (Touch.of_none kd H1.l.2)
  have c1 : (w1.alloc (.cells #[.int .i64 0, .int .u64 0, .int .u64 0, .int .u64 0] 33)).drew.cell? ⟨w1.heap.size, 0, none⟩ = some (.int .i64 0) := World.cell?_alloc_new ..
  have c2 : (w1.alloc (.cells #[.int .i64 0, .int .u64 0, .int .u64 0, .int .u64 0] 33)).drew.cell? ⟨w1.heap.size, 0 + 1, none⟩ = some (.int .u64 0) := World.cell?_alloc_new ..
  have c3 : (w1.alloc (.cells #[.int .i64 0, .int .u64 0, .int .u64 0, .int .u64 0] 33)).drew.cell? ⟨w1.heap.size, 0 + 2, none⟩ = some (.int .u64 0) := World.cell?_alloc_new ..
  have c4 : (w1.alloc (.cells #[.int .i64 0, .int .u64 0, .int .u64 0, .int .u64 0] 33)).drew.cell? ⟨w1.heap.size, 0 + 3, none⟩ = some (.int .u64 0) := World.cell?_alloc_new ..
  clear k1 hs1 HH C2 h1 hS kd H1
  go_wp2_with fail
  refine wp_region_still_tail 7 (by kernel_rfl) (by kernel_rfl) ?_
  simp only [List.take_succ_cons, List.take_zero, List.drop_succ_cons, List.drop_zero]
  change wpStill _ _ (w1.alloc (.cells #[.int .i64 0, .int .u64 0, .int .u64 0, .int .u64 0] 33)).drew (fun a' => wpList _ _ _ _ a' (w1.alloc (.cells #[.int .i64 0, .int .u64 0, .int .u64 0, .int .u64 0] 33)).drew) _ _
  generalize (w1.alloc (.cells #[.int .i64 0, .int .u64 0, .int .u64 0, .int .u64 0] 33)).drew = w2 at H2 T2 c1 c2 c3 c4 ⊢
  have h0 := H2.c0
  obtain ⟨v1, v2, v3, v4⟩ := H2.cv p hp
  obtain ⟨f1, f2, f3, f4⟩ := H2.fv p hp
  have H3 := Lib.hid (H2.setV p hp Pr.none)
  have T3 : Hid (Touch g pb po (n * 4) w2 (put4 w2 pb (po + p * 4) Pr.none)) := Lib.hid (put4_touch w2 _ _ (by omega) (by omega))
  have q1 : 0 ≤ (p : Int) := by omega
  have q2 : (p : Int) < (n : Int) := by omega
  clear H2
  repeat still_step
  refine wpStill_nil ?_
  go_wp2
  go_ret
  exact ⟨rfl, (T1.out.trans T2.out).trans T3.out, H3.out⟩
theorem give_no (k : Int) (H : RegMem w rb ro pb po b g n S V) (hv : k < 0 ∨ (n : Int) ≤ k ∨ S k.toNat = false) :
    Calls Tryd.prog 31 #[.pointer (some ⟨rb, ro, none⟩), .int .i64 k] w fun e w' => e = .returned (.bool false) ∧ w.grownBy w' none := by
  have h1 := H.c1
  have C2 := Lib.hid (drop_none b g n k S w H.set hv)
  clear H hv
  go_enter Tryd.func31, Tryd.ntmps31
  go_wp2_with fail
  refine C2.out.mono ?_
  rintro e w1 ⟨rfl, k1⟩
  go_wp2
  go_ret
  exact ⟨rfl, k1⟩

set_option maxHeartbeats 1000000 in
theorem at_in (p : Nat) (H : RegMem w rb ro pb po b g n S V) (hp : p < n) (hS : S p = true) :
    Calls Tryd.prog 27 #[.pointer (some ⟨rb, ro, none⟩), .int .i64 p] w fun e w' => e = .returned (.tuple #[(V p).val, .bool true]) ∧ w.grownBy w' none := by
  have ka := World.grownBy_alloc w (.cells #[.int .i64 0, .int .u64 0, .int .u64 0, .int .u64 0] 33) none
  have Ha := H.kept ka
  have h1 := Ha.c1
  have C2 := Lib.hid (has_g b g n p S _ Ha.set true (Or.inl ⟨by omega, by omega, by simpa using hS⟩))
  have HH := Lib.hid Ha
  have hn := H.hn
  have KA := Lib.hid ka
  clear H hS Ha ka
  unfold Pr.val
  go_enter Tryd.func27, Tryd.ntmps27
  go_wp2_with fail
  refine C2.out.mono ?_
  rintro e w1 ⟨rfl, k1⟩
  have H1 := HH.out.kept k1
  have h0 := H1.c0
  obtain ⟨v1, v2, v3, v4⟩ := H1.cv p hp
  have bx : ∀ j, w1.cell? ⟨w.heap.size, j, none⟩ = (w.alloc (.cells #[.int .i64 0, .int .u64 0, .int .u64 0, .int .u64 0] 33)).cell? ⟨w.heap.size, j, none⟩ := fun j => k1.cell_far ⟨w.heap.size, j, none⟩ (by simp) (by simp)
  have bf : ∀ j, w1.frozen? ⟨w.heap.size, j, none⟩ = (w.alloc (.cells #[.int .i64 0, .int .u64 0, .int .u64 0, .int .u64 0] 33)).frozen? ⟨w.heap.size, j, none⟩ := fun j => k1.frozen_far ⟨w.heap.size, j, none⟩ (by simp) (by simp)
  have x1 : w1.cell? ⟨w.heap.size, 0, none⟩ = some (.int .i64 0) := (bx 0).trans (World.cell?_alloc_new ..)
  have x2 : w1.cell? ⟨w.heap.size, 1, none⟩ = some (.int .u64 0) := (bx 1).trans (World.cell?_alloc_new ..)
  have x3 : w1.cell? ⟨w.heap.size, 2, none⟩ = some (.int .u64 0) := (bx 2).trans (World.cell?_alloc_new ..)
  have x4 : w1.cell? ⟨w.heap.size, 3, none⟩ = some (.int .u64 0) := (bx 3).trans (World.cell?_alloc_new ..)
  have y1 : w1.frozen? ⟨w.heap.size, 0, none⟩ = false := (bf 0).trans (by simp)
  have y2 : w1.frozen? ⟨w.heap.size, 1, none⟩ = false := (bf 1).trans (by simp)
  have y3 : w1.frozen? ⟨w.heap.size, 2, none⟩ = false := (bf 2).trans (by simp)
  have y4 : w1.frozen? ⟨w.heap.size, 3, none⟩ = false := (bf 3).trans (by simp)
  have KK := Lib.hid k1
  clear H1 HH C2 h1 bx bf k1
  go_wp2
  exact bodyPost_ret (v := .tuple #[.agg #[.int .i64 (V p).g, .int .u64 (V p).k, .int .u64 (V p).i, .int .u64 (V p).r], .bool true]) (by simp [results, Tryd.results27, go_sem, x1, x2, x3, x4]) rfl
    ⟨rfl, Only.on (grow_to KA.out KK.out) ((((Only.set (lo := w.heap.size) (hi := w.heap.size + 1) _ ⟨w.heap.size, 0, none⟩ _ (Nat.le_refl _) (Nat.lt_succ_self _)).trans (Only.set _ ⟨w.heap.size, 1, none⟩ _ (Nat.le_refl _) (Nat.lt_succ_self _))).trans (Only.set _ ⟨w.heap.size, 2, none⟩ _ (Nat.le_refl _) (Nat.lt_succ_self _))).trans (Only.set _ ⟨w.heap.size, 3, none⟩ _ (Nat.le_refl _) (Nat.lt_succ_self _))) (Nat.le_refl _)⟩
set_option maxHeartbeats 1000000 in
theorem at_no (k : Int) (H : RegMem w rb ro pb po b g n S V) (hv : k < 0 ∨ (n : Int) ≤ k ∨ S k.toNat = false) :
    Calls Tryd.prog 27 #[.pointer (some ⟨rb, ro, none⟩), .int .i64 k] w fun e w' => e = .returned (.tuple #[Pr.none.val, .bool false]) ∧ w.grownBy w' none := by
  have ka := World.grownBy_alloc w (.cells #[.int .i64 0, .int .u64 0, .int .u64 0, .int .u64 0] 33) none
  have Ha := H.kept ka
  have h1 := Ha.c1
  have C2 := Lib.hid (has_g b g n k S _ Ha.set false (by
    by_cases h : 0 ≤ k ∧ k < n
    · refine Or.inl ⟨h.1, h.2, ?_⟩
      rcases hv with h2 | h2 | h2
      · omega
      · omega
      · exact h2
    · exact Or.inr ⟨by omega, rfl⟩))
  have KA := Lib.hid ka
  clear H hv Ha ka
  unfold Pr.val Pr.none
  go_enter Tryd.func27, Tryd.ntmps27
  go_wp2_with fail
  refine C2.out.mono ?_
  rintro e w1 ⟨rfl, k1⟩
  have hsz : w.heap.size + 1 ≤ w1.heap.size := by have := k1.size; simpa using this
  have bx : ∀ j, (w1.alloc (.cells #[.int .i64 0, .int .u64 0, .int .u64 0, .int .u64 0] 33)).cell? ⟨w.heap.size, j, none⟩ = (w.alloc (.cells #[.int .i64 0, .int .u64 0, .int .u64 0, .int .u64 0] 33)).cell? ⟨w.heap.size, j, none⟩ := fun j => ((World.grownBy_alloc w1 (.cells #[.int .i64 0, .int .u64 0, .int .u64 0, .int .u64 0] 33) none).cell_far ⟨w.heap.size, j, none⟩ (by show w.heap.size < _; omega) (by simp)).trans (k1.cell_far ⟨w.heap.size, j, none⟩ (by simp) (by simp))
  have bf : ∀ j, (w1.alloc (.cells #[.int .i64 0, .int .u64 0, .int .u64 0, .int .u64 0] 33)).frozen? ⟨w.heap.size, j, none⟩ = (w.alloc (.cells #[.int .i64 0, .int .u64 0, .int .u64 0, .int .u64 0] 33)).frozen? ⟨w.heap.size, j, none⟩ := fun j => ((World.grownBy_alloc w1 (.cells #[.int .i64 0, .int .u64 0, .int .u64 0, .int .u64 0] 33) none).frozen_far ⟨w.heap.size, j, none⟩ (by show w.heap.size < _; omega) (by simp)).trans (k1.frozen_far ⟨w.heap.size, j, none⟩ (by simp) (by simp))
  have x1 : (w1.alloc (.cells #[.int .i64 0, .int .u64 0, .int .u64 0, .int .u64 0] 33)).cell? ⟨w.heap.size, 0, none⟩ = some (.int .i64 0) := (bx 0).trans (World.cell?_alloc_new ..)
  have x2 : (w1.alloc (.cells #[.int .i64 0, .int .u64 0, .int .u64 0, .int .u64 0] 33)).cell? ⟨w.heap.size, 1, none⟩ = some (.int .u64 0) := (bx 1).trans (World.cell?_alloc_new ..)
  have x3 : (w1.alloc (.cells #[.int .i64 0, .int .u64 0, .int .u64 0, .int .u64 0] 33)).cell? ⟨w.heap.size, 2, none⟩ = some (.int .u64 0) := (bx 2).trans (World.cell?_alloc_new ..)
  have x4 : (w1.alloc (.cells #[.int .i64 0, .int .u64 0, .int .u64 0, .int .u64 0] 33)).cell? ⟨w.heap.size, 3, none⟩ = some (.int .u64 0) := (bx 3).trans (World.cell?_alloc_new ..)
  have y1 : (w1.alloc (.cells #[.int .i64 0, .int .u64 0, .int .u64 0, .int .u64 0] 33)).frozen? ⟨w.heap.size, 0, none⟩ = false := (bf 0).trans (by simp)
  have y2 : (w1.alloc (.cells #[.int .i64 0, .int .u64 0, .int .u64 0, .int .u64 0] 33)).frozen? ⟨w.heap.size, 1, none⟩ = false := (bf 1).trans (by simp)
  have y3 : (w1.alloc (.cells #[.int .i64 0, .int .u64 0, .int .u64 0, .int .u64 0] 33)).frozen? ⟨w.heap.size, 2, none⟩ = false := (bf 2).trans (by simp)
  have y4 : (w1.alloc (.cells #[.int .i64 0, .int .u64 0, .int .u64 0, .int .u64 0] 33)).frozen? ⟨w.heap.size, 3, none⟩ = false := (bf 3).trans (by simp)
  have KK := Lib.hid (k1.trans (World.grownBy_alloc w1 (.cells #[.int .i64 0, .int .u64 0, .int .u64 0, .int .u64 0] 33) none))
  clear C2 h1 bx bf k1
  go_wp2
  exact bodyPost_ret (v := .tuple #[.agg #[.int .i64 0, .int .u64 0, .int .u64 0, .int .u64 0], .bool false]) (by simp [results, Tryd.results27, go_sem, x1, x2, x3, x4]) rfl
    ⟨rfl, Only.on (grow_to KA.out KK.out) ((((Only.set (lo := w.heap.size) (hi := w.heap.size + 1) _ ⟨w.heap.size, 0, none⟩ _ (Nat.le_refl _) (Nat.lt_succ_self _)).trans (Only.set _ ⟨w.heap.size, 1, none⟩ _ (Nat.le_refl _) (Nat.lt_succ_self _))).trans (Only.set _ ⟨w.heap.size, 2, none⟩ _ (Nat.le_refl _) (Nat.lt_succ_self _))).trans (Only.set _ ⟨w.heap.size, 3, none⟩ _ (Nat.le_refl _) (Nat.lt_succ_self _))) (Nat.le_refl _)⟩

set_option maxHeartbeats 2000000 in
theorem set_in (p : Nat) (v : Pr) (H : RegMem w rb ro pb po b g n S V) (hp : p < n) (hS : S p = true) :
    Calls Tryd.prog 23 #[.pointer (some ⟨rb, ro, none⟩), .int .i64 p, v.val] w fun e w' => e = .returned (.bool true) ∧ Touch g pb po (n * 4) w w' ∧ RegMem w' rb ro pb po b g n S (upV V p v) := by
  have ka := World.grownBy_alloc w (.cells #[.int .i64 v.g, .int .u64 v.k, .int .u64 v.i, .int .u64 v.r] 33) none
  have Ha := H.kept ka
  have h1 := Ha.c1
  have C2 := Lib.hid (has_g b g n p S _ Ha.set true (Or.inl ⟨by omega, by omega, by simpa using hS⟩))
  have HH := Lib.hid Ha
  have HW := Lib.hid H
  have KA := Lib.hid ka
  have bx : Hid (∀ v1 : World, (w.alloc (.cells #[.int .i64 v.g, .int .u64 v.k, .int .u64 v.i, .int .u64 v.r] 33)).grownBy v1 none → PlaceAt v1 w.heap.size 0 v) := Lib.hid fun v1 k1 => by
    have e : ∀ j, v1.cell? ⟨w.heap.size, j, none⟩ = (w.alloc (.cells #[.int .i64 v.g, .int .u64 v.k, .int .u64 v.i, .int .u64 v.r] 33)).cell? ⟨w.heap.size, j, none⟩ := fun j => k1.cell_far ⟨w.heap.size, j, none⟩ (by simp) (by simp)
    refine ⟨(e _).trans ?_, (e _).trans ?_, (e _).trans ?_, (e _).trans ?_⟩ <;> rw [World.cell?_alloc_new] <;> rfl
  have hn := H.hn
  clear H Ha ka
  unfold Pr.val
  go_enter Tryd.func23, Tryd.ntmps23
  go_wp2_with fail
  refine C2.out.mono ?_
  rintro e w1 ⟨rfl, k1⟩
  have H1 := HH.out.kept k1
  have T1 : Hid (Touch g pb po (n * 4) w w1) := Lib.hid (Touch.of_none (KA.out.trans k1) HW.out.l.2)
  obtain ⟨b1, b2, b3, b4⟩ := bx.out w1 k1
  have kd : w1.grownBy w1.drew none := ⟨rfl, rfl, rfl, Nat.le_refl _, fun _ _ _ => rfl⟩
  have H2 := H1.kept kd
  have T2 : Hid (Touch g pb po (n * 4) w1 w1.drew) := Lib.hid (Touch.of_none kd H1.l.2)
  have c1 : w1.drew.cell? ⟨w.heap.size, 0, none⟩ = some (.int .i64 v.g) := b1
  have c2 : w1.drew.cell? ⟨w.heap.size, 0 + 1, none⟩ = some (.int .u64 v.k) := b2
  have c3 : w1.drew.cell? ⟨w.heap.size, 0 + 2, none⟩ = some (.int .u64 v.i) := b3
  have c4 : w1.drew.cell? ⟨w.heap.size, 0 + 3, none⟩ = some (.int .u64 v.r) := b4
  clear k1 HH C2 h1 hS bx HW KA b1 b2 b3 b4 kd H1
  go_wp2_with fail
  refine wp_region_still_tail 7 (by kernel_rfl) (by kernel_rfl) ?_
  simp only [List.take_succ_cons, List.take_zero, List.drop_succ_cons, List.drop_zero]
  change wpStill _ _ w1.drew (fun a' => wpList _ _ _ _ a' w1.drew) _ _
  generalize w1.drew = w2 at H2 T2 c1 c2 c3 c4 ⊢
  have h0 := H2.c0
  obtain ⟨v1, v2, v3, v4⟩ := H2.cv p hp
  obtain ⟨f1, f2, f3, f4⟩ := H2.fv p hp
  have H3 := Lib.hid (H2.setV p hp v)
  have T3 : Hid (Touch g pb po (n * 4) w2 (put4 w2 pb (po + p * 4) v)) := Lib.hid (put4_touch w2 _ v (by omega) (by omega))
  have q1 : 0 ≤ (p : Int) := by omega
  have q2 : (p : Int) < (n : Int) := by omega
  clear H2
  repeat still_step
  refine wpStill_nil ?_
  go_wp2
  go_ret
  exact ⟨rfl, (T1.out.trans T2.out).trans T3.out, H3.out⟩
theorem set_no (k : Int) (v : Pr) (H : RegMem w rb ro pb po b g n S V) (hv : k < 0 ∨ (n : Int) ≤ k ∨ S k.toNat = false) :
    Calls Tryd.prog 23 #[.pointer (some ⟨rb, ro, none⟩), .int .i64 k, v.val] w fun e w' => e = .returned (.bool false) ∧ w.grownBy w' none := by
  have ka := World.grownBy_alloc w (.cells #[.int .i64 v.g, .int .u64 v.k, .int .u64 v.i, .int .u64 v.r] 33) none
  have Ha := H.kept ka
  have h1 := Ha.c1
  have C2 := Lib.hid (has_g b g n k S _ Ha.set false (by
    by_cases h : 0 ≤ k ∧ k < n
    · refine Or.inl ⟨h.1, h.2, ?_⟩
      rcases hv with h2 | h2 | h2
      · omega
      · omega
      · exact h2
    · exact Or.inr ⟨by omega, rfl⟩))
  have KA := Lib.hid ka
  clear H hv Ha ka
  unfold Pr.val
  go_enter Tryd.func23, Tryd.ntmps23
  go_wp2_with fail
  refine C2.out.mono ?_
  rintro e w1 ⟨rfl, k1⟩
  go_wp2
  go_ret
  exact ⟨rfl, grow_to KA.out k1⟩
end
end Go.Proofs.YtkkodhjolgcokaaDoor.SA
