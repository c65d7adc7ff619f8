/-
  A queue in memory: its struct, the chain behind it; a thing's number, and a number's thing.
-/
import Derived.Test.YtpnipmjjhiaieaaChain5
namespace Go.Proofs.Ytpnipmjjhiaieaa
open Go.RowKit Go.Lib
set_option maxRecDepth 100000
set_option linter.unusedVariables false

theorem LinksAt.congr {w : World} {lo n m : Nat} {L L' : Nat → List Nat} (H : LinksAt w lo n m L) (h : ∀ j, j < m → L j = L' j) : LinksAt w lo n m L' := by
  obtain ⟨bn, bp, bo, bl, N, P, O, H1, H2⟩ := H
  refine ⟨bn, bp, bo, bl, N, P, O, ⟨H1.hn, H1.hm, H1.c0, H1.c1, H1.c2, H1.c3, H1.cn, H1.cp, H1.co, fun i hi => by rw [← h i hi]; exact H1.cl i hi, H1.fn, H1.fp, H1.fo, H1.fl, H1.rn, H1.rp, H1.ro, H1.rl, H1.dif, H1.sz⟩, ?_⟩
  exact ⟨fun i hi => by rw [← h i hi]; exact H2.ring i hi, fun k i hk hi => by rw [← h i hi]; exact H2.on k i hk hi, H2.offs, fun i hi => by rw [← h i hi]; exact H2.bound i hi, fun i hi => by rw [← h i hi]; exact H2.nodup i hi⟩

theorem gd {a b : World} (h : a.grownBy b none) : a.grownBy b.drew none := ⟨h.os, h.tape, h.output, h.size, h.block⟩
theorem gdN {a b : World} (k : Nat) (h : a.grownBy b none) : a.grownBy (b.drewN k) none := ⟨h.os, h.tape, h.output, h.size, h.block⟩
theorem ga {a b : World} (o : Obj) (h : a.grownBy b none) : a.grownBy (b.alloc o) none := h.trans (World.grownBy_alloc b o none)
theorem grown_above {a b : World} (k : a.grownBy b none) {q : Nat} (hq : a.heap.size ≤ q) (o : Nat) (u : Value) : a.grownBy (b.setCell ⟨q, o, none⟩ u) none :=
  ⟨k.os, k.tape, k.output, by have := k.size; simp [World.setCell]; omega, fun i hi hr => (Below.heap_setCell b ⟨q, o, none⟩ u i (by show i ≠ q; omega)).trans (k.block i hi hr)⟩

theorem box2 (w : World) (u v : Value) (T : TypeId) (k : Nat) : (((w.alloc (.cells #[u, v] T)).drewN k).cell? ⟨w.heap.size, 0, none⟩ = some u ∧ ((w.alloc (.cells #[u, v] T)).drewN k).cell? ⟨w.heap.size, 1, none⟩ = some v) ∧ w.grownBy ((w.alloc (.cells #[u, v] T)).drewN k) none := by
  have e : ((w.alloc (.cells #[u, v] T)).drewN k).heap[w.heap.size]? = some (.cells #[u, v] T) := Array.getElem?_push_size
  refine ⟨⟨?_, ?_⟩, by (repeat (first | exact World.grownBy.refl _ _ | exact World.grownBy_alloc _ _ none | assumption | refine gdN _ ?_ | refine gd ?_ | refine ga _ ?_ | refine grown_above ?_ (by omega) _ _))⟩ <;> (rw [World.cell?]; simp only [e]; rfl)

/-- How many of the numbers are devices. -/
def devN (T : Nat) (Q : List Nat) : Nat := (Q.filter fun k => decide (T ≤ k)).length

/-- A queue: block qb its struct, the chain's blocks from lb on; Q its numbers in order. -/
structure QMem (w : World) (qb lb T D : Nat) (M : Int) (d : Nat) (Q : List Nat) : Prop where
  ln : LinksAt w lb (T + D) 1 (fun _ => Q)
  c0 : w.cell? ⟨qb, 0, none⟩ = some (.pointer (some ⟨lb + 4, 0, none⟩))
  c1 : w.cell? ⟨qb, 1, none⟩ = some (.int .i64 (T : Nat))
  c2 : w.cell? ⟨qb, 2, none⟩ = some (.int .i64 M)
  c3 : w.cell? ⟨qb, 3, none⟩ = some (.int .i64 (d : Nat))
  f3 : w.frozen? ⟨qb, 3, none⟩ = false
  ap : qb < lb ∨ lb + 5 ≤ qb
  sz : qb < w.heap.size
  tb : T ≤ 300 ∧ D ≤ 300

section
variable {w w' : World} {qb lb T D d : Nat} {M : Int} {Q : List Nat}

theorem QMem.only {l h : Nat} (H : QMem w qb lb T D M d Q) (k : Only l h w w') (h1 : lb + 5 ≤ l ∨ h ≤ lb) (h2 : qb < l ∨ h ≤ qb) : QMem w' qb lb T D M d Q :=
  ⟨H.ln.kept k h1, by rw [k.cell _ H.sz h2]; exact H.c0, by rw [k.cell _ H.sz h2]; exact H.c1, by rw [k.cell _ H.sz h2]; exact H.c2, by rw [k.cell _ H.sz h2]; exact H.c3, by rw [k.frozen _ H.sz h2]; exact H.f3, H.ap, Nat.lt_of_lt_of_le H.sz k.size, H.tb⟩
theorem QMem.kept (H : QMem w qb lb T D M d Q) (k : w.grownBy w' none) : QMem w' qb lb T D M d Q := H.only (Only.of_none (lo := 0) (hi := 0) k) (Or.inr (Nat.zero_le _)) (Or.inr (Nat.zero_le _))

/-- A thing's number. -/
def numT (T D : Nat) (k i : Int) : Option Nat :=
  if k = 1 ∧ 0 ≤ i ∧ i < T then some i.toNat else if k = 2 ∧ 0 ≤ i ∧ i < D then some (T + i.toNat) else none

set_option maxHeartbeats 1000000 in
theorem qnum_t (H : QMem w qb lb T D M d Q) (i : Nat) (hi : i < T) :
    Calls Try.prog 50 #[.pointer (some ⟨qb, 0, none⟩), .agg #[.int .i64 1, .int .i64 i]] w fun e w' => e = .returned (.tuple #[.int .i64 i, .bool true]) ∧ w.grownBy w' none := by
  have c1 := H.c1
  have tb := H.tb
  have sz := H.sz
  clear H
  go_enter Try.func50, Try.ntmps50
  go_wp2
  go_quiet (fail)
  go_wp2
  go_ret2
  exact ⟨rfl, by (repeat (first | exact World.grownBy.refl _ _ | exact World.grownBy_alloc _ _ none | assumption | refine gdN _ ?_ | refine gd ?_ | refine ga _ ?_ | refine grown_above ?_ (by omega) _ _))⟩

set_option maxHeartbeats 1000000 in
theorem qnum_d (H : QMem w qb lb T D M d Q) (i : Nat) (hi : i < D) :
    Calls Try.prog 50 #[.pointer (some ⟨qb, 0, none⟩), .agg #[.int .i64 2, .int .i64 i]] w fun e w' => e = .returned (.tuple #[.int .i64 ((T + i : Nat) : Int), .bool true]) ∧ w.grownBy w' none := by
  have c0 := H.c0
  have c1 := H.c1
  have tb := H.tb
  have sz := H.sz
  have N : Hid (∀ W, w.grownBy W none → Calls Try.prog 64 #[.pointer (some ⟨lb + 4, 0, none⟩)] W fun e w' => e = .returned (.int .i64 ((T + D : Nat) : Int)) ∧ W = w') := Lib.hid fun W hW => numbers_any (H.kept hW).ln
  clear H
  go_enter Try.func50, Try.ntmps50
  go_wp2_with fail
  go_quiet (fail)
  obtain ⟨⟨b0, b1⟩, g1⟩ := box2 w (.int .i64 2) (.int .i64 (i : Int)) 46 nq
  generalize ((w.alloc (.cells #[.int .i64 2, .int .i64 (i : Int)] 46)).drewN nq) = w1 at *
  have d0 := g1.cell c0 (by simp)
  have d1 := g1.cell c1 (by simp)
  clear c0 c1 sz
  go_wp2_with fail
  go_quiet ((go_at_call 64; exact Calls.quiet_of_same ((N.out _ (gdN _ g1)).mono fun _ _ ⟨a, c⟩ => ⟨a, c.symm⟩)))
  have hx : decide ((i : Int) < (T : Int) + D - T) = true := by rw [decide_eq_true_iff]; omega
  rw [hx]
  go_wp2_with fail
  go_quiet (fail)
  go_wp2
  go_ret2
  exact ⟨by simp, by (repeat (first | exact World.grownBy.refl _ _ | exact World.grownBy_alloc _ _ none | assumption | refine gdN _ ?_ | refine gd ?_ | refine ga _ ?_ | refine grown_above ?_ (by omega) _ _))⟩

--BEGIN no
set_option maxHeartbeats 1000000 in
theorem qnum_n1 (H : QMem w qb lb T D M d Q) (i : Int) (hi : i < 0) :
    Calls Try.prog 50 #[.pointer (some ⟨qb, 0, none⟩), .agg #[.int .i64 1, .int .i64 i]] w fun e w' => e = .returned (.tuple #[.int .i64 0, .bool false]) ∧ w.grownBy w' none := by
  have c0 := H.c0
  have c1 := H.c1
  have tb := H.tb
  have sz := H.sz
  have N : Hid (∀ W, w.grownBy W none → Calls Try.prog 64 #[.pointer (some ⟨lb + 4, 0, none⟩)] W fun e w' => e = .returned (.int .i64 ((T + D : Nat) : Int)) ∧ W = w') := Lib.hid fun W hW => numbers_any (H.kept hW).ln
  clear H
  have hd : decide (0 ≤ i) = false := by rw [decide_eq_false_iff_not]; omega
  clear hi
  go_enter Try.func50, Try.ntmps50
  go_wp2_with fail
  go_quiet (fail)
  obtain ⟨⟨b0, b1⟩, g1⟩ := box2 w (.int .i64 1) (.int .i64 (i : Int)) 46 nq
  generalize ((w.alloc (.cells #[.int .i64 1, .int .i64 (i : Int)] 46)).drewN nq) = w1 at *
  have d0 := g1.cell c0 (by simp)
  have d1 := g1.cell c1 (by simp)
  clear c0 c1 sz
  go_wp2_with fail
  go_quiet ((go_at_call 64; exact Calls.quiet_of_same ((N.out _ (gdN _ g1)).mono fun _ _ ⟨a, c⟩ => ⟨a, c.symm⟩)))
  go_wp2
  go_ret2
  exact ⟨by simp, by (repeat (first | exact World.grownBy.refl _ _ | exact World.grownBy_alloc _ _ none | assumption | refine gdN _ ?_ | refine gd ?_ | refine ga _ ?_ | refine grown_above ?_ (by omega) _ _))⟩

set_option maxHeartbeats 1000000 in
theorem qnum_n2 (H : QMem w qb lb T D M d Q) (i : Nat) (hi : T ≤ i) :
    Calls Try.prog 50 #[.pointer (some ⟨qb, 0, none⟩), .agg #[.int .i64 1, .int .i64 i]] w fun e w' => e = .returned (.tuple #[.int .i64 0, .bool false]) ∧ w.grownBy w' none := by
  have c0 := H.c0
  have c1 := H.c1
  have tb := H.tb
  have sz := H.sz
  have N : Hid (∀ W, w.grownBy W none → Calls Try.prog 64 #[.pointer (some ⟨lb + 4, 0, none⟩)] W fun e w' => e = .returned (.int .i64 ((T + D : Nat) : Int)) ∧ W = w') := Lib.hid fun W hW => numbers_any (H.kept hW).ln
  clear H
  go_enter Try.func50, Try.ntmps50
  go_wp2_with fail
  go_quiet (fail)
  obtain ⟨⟨b0, b1⟩, g1⟩ := box2 w (.int .i64 1) (.int .i64 (i : Int)) 46 nq
  generalize ((w.alloc (.cells #[.int .i64 1, .int .i64 (i : Int)] 46)).drewN nq) = w1 at *
  have d0 := g1.cell c0 (by simp)
  have d1 := g1.cell c1 (by simp)
  clear c0 c1 sz
  go_wp2_with fail
  go_quiet ((go_at_call 64; exact Calls.quiet_of_same ((N.out _ (gdN _ g1)).mono fun _ _ ⟨a, c⟩ => ⟨a, c.symm⟩)))
  go_wp2
  go_ret2
  exact ⟨by simp, by (repeat (first | exact World.grownBy.refl _ _ | exact World.grownBy_alloc _ _ none | assumption | refine gdN _ ?_ | refine gd ?_ | refine ga _ ?_ | refine grown_above ?_ (by omega) _ _))⟩

set_option maxHeartbeats 1000000 in
theorem qnum_n3 (H : QMem w qb lb T D M d Q) (i : Int) (hi : i < 0) :
    Calls Try.prog 50 #[.pointer (some ⟨qb, 0, none⟩), .agg #[.int .i64 2, .int .i64 i]] w fun e w' => e = .returned (.tuple #[.int .i64 0, .bool false]) ∧ w.grownBy w' none := by
  have c0 := H.c0
  have c1 := H.c1
  have tb := H.tb
  have sz := H.sz
  have N : Hid (∀ W, w.grownBy W none → Calls Try.prog 64 #[.pointer (some ⟨lb + 4, 0, none⟩)] W fun e w' => e = .returned (.int .i64 ((T + D : Nat) : Int)) ∧ W = w') := Lib.hid fun W hW => numbers_any (H.kept hW).ln
  clear H
  have hd : decide (0 ≤ i) = false := by rw [decide_eq_false_iff_not]; omega
  clear hi
  go_enter Try.func50, Try.ntmps50
  go_wp2_with fail
  go_quiet (fail)
  obtain ⟨⟨b0, b1⟩, g1⟩ := box2 w (.int .i64 2) (.int .i64 (i : Int)) 46 nq
  generalize ((w.alloc (.cells #[.int .i64 2, .int .i64 (i : Int)] 46)).drewN nq) = w1 at *
  have d0 := g1.cell c0 (by simp)
  have d1 := g1.cell c1 (by simp)
  clear c0 c1 sz
  go_wp2_with fail
  go_quiet ((go_at_call 64; exact Calls.quiet_of_same ((N.out _ (gdN _ g1)).mono fun _ _ ⟨a, c⟩ => ⟨a, c.symm⟩)))
  go_wp2
  go_ret2
  exact ⟨by simp, by (repeat (first | exact World.grownBy.refl _ _ | exact World.grownBy_alloc _ _ none | assumption | refine gdN _ ?_ | refine gd ?_ | refine ga _ ?_ | refine grown_above ?_ (by omega) _ _))⟩

set_option maxHeartbeats 1000000 in
theorem qnum_n4 (H : QMem w qb lb T D M d Q) (i : Nat) (hi : D ≤ i) :
    Calls Try.prog 50 #[.pointer (some ⟨qb, 0, none⟩), .agg #[.int .i64 2, .int .i64 i]] w fun e w' => e = .returned (.tuple #[.int .i64 0, .bool false]) ∧ w.grownBy w' none := by
  have c0 := H.c0
  have c1 := H.c1
  have tb := H.tb
  have sz := H.sz
  have N : Hid (∀ W, w.grownBy W none → Calls Try.prog 64 #[.pointer (some ⟨lb + 4, 0, none⟩)] W fun e w' => e = .returned (.int .i64 ((T + D : Nat) : Int)) ∧ W = w') := Lib.hid fun W hW => numbers_any (H.kept hW).ln
  clear H
  go_enter Try.func50, Try.ntmps50
  go_wp2_with fail
  go_quiet (fail)
  obtain ⟨⟨b0, b1⟩, g1⟩ := box2 w (.int .i64 2) (.int .i64 (i : Int)) 46 nq
  generalize ((w.alloc (.cells #[.int .i64 2, .int .i64 (i : Int)] 46)).drewN nq) = w1 at *
  have d0 := g1.cell c0 (by simp)
  have d1 := g1.cell c1 (by simp)
  clear c0 c1 sz
  go_wp2_with fail
  go_quiet ((go_at_call 64; exact Calls.quiet_of_same ((N.out _ (gdN _ g1)).mono fun _ _ ⟨a, c⟩ => ⟨a, c.symm⟩)))
  have hx : decide ((i : Int) < (T : Int) + D - T) = false := by rw [decide_eq_false_iff_not]; omega
  rw [hx]
  go_wp2
  go_ret2
  exact ⟨by simp, by (repeat (first | exact World.grownBy.refl _ _ | exact World.grownBy_alloc _ _ none | assumption | refine gdN _ ?_ | refine gd ?_ | refine ga _ ?_ | refine grown_above ?_ (by omega) _ _))⟩

set_option maxHeartbeats 1000000 in
theorem qnum_n5 (H : QMem w qb lb T D M d Q) (k i : Int) (h1 : k ≠ 1) (h2 : k ≠ 2) :
    Calls Try.prog 50 #[.pointer (some ⟨qb, 0, none⟩), .agg #[.int .i64 k, .int .i64 i]] w fun e w' => e = .returned (.tuple #[.int .i64 0, .bool false]) ∧ w.grownBy w' none := by
  have c0 := H.c0
  have c1 := H.c1
  have tb := H.tb
  have sz := H.sz
  have N : Hid (∀ W, w.grownBy W none → Calls Try.prog 64 #[.pointer (some ⟨lb + 4, 0, none⟩)] W fun e w' => e = .returned (.int .i64 ((T + D : Nat) : Int)) ∧ W = w') := Lib.hid fun W hW => numbers_any (H.kept hW).ln
  clear H
  have e1 : (k == 1) = false := by simpa using h1
  have e2 : (k == 2) = false := by simpa using h2
  have e3 : decide (k = 1) = false := by simpa using h1
  have e4 : decide (k = 2) = false := by simpa using h2
  clear h1 h2
  go_enter Try.func50, Try.ntmps50
  go_wp2_with fail
  go_quiet (fail)
  obtain ⟨⟨b0, b1⟩, g1⟩ := box2 w (.int .i64 k) (.int .i64 (i : Int)) 46 nq
  generalize ((w.alloc (.cells #[.int .i64 k, .int .i64 (i : Int)] 46)).drewN nq) = w1 at *
  have d0 := g1.cell c0 (by simp)
  have d1 := g1.cell c1 (by simp)
  clear c0 c1 sz
  go_wp2_with fail
  go_quiet ((go_at_call 64; exact Calls.quiet_of_same ((N.out _ (gdN _ g1)).mono fun _ _ ⟨a, c⟩ => ⟨a, c.symm⟩)))
  go_wp2
  go_ret2
  exact ⟨by simp, by (repeat (first | exact World.grownBy.refl _ _ | exact World.grownBy_alloc _ _ none | assumption | refine gdN _ ?_ | refine gd ?_ | refine ga _ ?_ | refine grown_above ?_ (by omega) _ _))⟩

theorem qnum_some (H : QMem w qb lb T D M d Q) (k i : Int) (j : Nat) (h : numT T D k i = some j) :
    Calls Try.prog 50 #[.pointer (some ⟨qb, 0, none⟩), .agg #[.int .i64 k, .int .i64 i]] w fun e w' => e = .returned (.tuple #[.int .i64 (j : Nat), .bool true]) ∧ w.grownBy w' none := by
  unfold numT at h
  split at h
  · rename_i h1
    obtain ⟨rfl, h2, h3⟩ := h1
    obtain ⟨i, rfl⟩ := Int.eq_ofNat_of_zero_le h2
    injection h with h
    subst h
    exact qnum_t H i (by omega)
  · split at h
    · rename_i h1
      obtain ⟨rfl, h2, h3⟩ := h1
      obtain ⟨i, rfl⟩ := Int.eq_ofNat_of_zero_le h2
      injection h with h
      subst h
      exact qnum_d H i (by omega)
    · cases h
theorem qnum_none (H : QMem w qb lb T D M d Q) (k i : Int) (h : numT T D k i = none) :
    Calls Try.prog 50 #[.pointer (some ⟨qb, 0, none⟩), .agg #[.int .i64 k, .int .i64 i]] w fun e w' => e = .returned (.tuple #[.int .i64 0, .bool false]) ∧ w.grownBy w' none := by
  unfold numT at h
  split at h
  · cases h
  · split at h
    · cases h
    · rename_i h1 h2
      by_cases e1 : k = 1
      · subst e1
        by_cases e2 : i < 0
        · exact qnum_n1 H i e2
        · obtain ⟨i, rfl⟩ := Int.eq_ofNat_of_zero_le (show 0 ≤ i by omega)
          exact qnum_n2 H i (by omega)
      · by_cases e3 : k = 2
        · subst e3
          by_cases e2 : i < 0
          · exact qnum_n3 H i e2
          · obtain ⟨i, rfl⟩ := Int.eq_ofNat_of_zero_le (show 0 ≤ i by omega)
            exact qnum_n4 H i (by omega)
        · exact qnum_n5 H k i e1 e3

/-- The thing of a number. -/
def thK (T k : Nat) : Int := if k < T then 1 else 2
def thI (T k : Nat) : Int := if k < T then (k : Int) else ((k - T : Nat) : Int)
theorem numT_th {T D k : Nat} (h : k < T + D) : numT T D (thK T k) (thI T k) = some k := by
  unfold numT thK thI
  by_cases e : k < T
  · simp [e]
  · rw [if_neg e, if_neg e, if_neg (by omega), if_pos (by omega)]
    congr 1; omega

set_option maxHeartbeats 1000000 in
theorem qthing_any (H : QMem w qb lb T D M d Q) (k : Nat) (hk : k < T + D) :
    Calls Try.prog 46 #[.pointer (some ⟨qb, 0, none⟩), .int .i64 k] w fun e w' => e = .returned (.agg #[.int .i64 (thK T k), .int .i64 (thI T k)]) ∧ w.grownBy w' none := by
  have c1 := H.c1
  have tb := H.tb
  have sz := H.sz
  clear H
  unfold thK thI
  by_cases e : k < T
  · rw [if_pos e, if_pos e]
    go_enter Try.func46, Try.ntmps46
    go_wp2
    exact bodyPost_ret (v := .agg #[.int .i64 1, .int .i64 (k : Int)]) (by simp [results, Try.results46, go_sem]) rfl ⟨rfl, by (repeat (first | exact World.grownBy.refl _ _ | exact World.grownBy_alloc _ _ none | assumption | refine gdN _ ?_ | refine gd ?_ | refine ga _ ?_ | refine grown_above ?_ (by omega) _ _))⟩
  · rw [if_neg e, if_neg e]
    have e2 : T ≤ k := by omega
    have e3 : ((k - T : Nat) : Int) = (k : Int) - T := by omega
    rw [e3]
    go_enter Try.func46, Try.ntmps46
    go_wp2
    exact bodyPost_ret (v := .agg #[.int .i64 2, .int .i64 ((k : Int) - T)]) (by simp [results, Try.results46, go_sem]) rfl ⟨rfl, by (repeat (first | exact World.grownBy.refl _ _ | exact World.grownBy_alloc _ _ none | assumption | refine gdN _ ?_ | refine gd ?_ | refine ga _ ?_ | refine grown_above ?_ (by omega) _ _))⟩
--END no
end
end Go.Proofs.Ytpnipmjjhiaieaa
