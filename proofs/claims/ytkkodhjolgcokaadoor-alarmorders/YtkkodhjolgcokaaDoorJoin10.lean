/-
  Texts of one claim, joined, one behind the other.
-/
import Derived.Test.YtkkodhjolgcokaaDoorJoin9
import Derived.LoopTactic
/-
  A wheel as an object: its time, and what each alarm is set for.
-/
namespace Go.Proofs.YtkkodhjolgcokaaDoor
open Go.RowKit Go.Lib
set_option linter.unusedVariables false

/-- A wheel whose blocks lie from lo on, below hi: S k is what alarm k is set for. -/
def Wl (w : World) (lo hi wb n now : Nat) (S : Nat → Option (Nat × Nat)) : Prop :=
  ∃ ab lb A L C pl, WhMem w wb ab lb n now A L C ∧ WInv n A L C S pl ∧ (∀ k v, k < n → S k = some v → pl k = slotN now v.1) ∧ n ≤ 4096 ∧ (lo ≤ wb ∧ lo ≤ ab ∧ lo ≤ lb) ∧ (wb < hi ∧ ab < hi ∧ lb + 5 ≤ hi) ∧ ∀ k, n ≤ k → S k = none

section
variable {w w' : World} {lo hi wb n now : Nat} {S : Nat → Option (Nat × Nat)}

theorem Wl.kept (H : Wl w lo hi wb n now S) (k : w.grownBy w' none) : Wl w' lo hi wb n now S := by
  obtain ⟨ab, lb, A, L, C, pl, M, I, P, h⟩ := H
  exact ⟨ab, lb, A, L, C, pl, M.kept k, I, P, h⟩
theorem Wl.only {l h : Nat} (H : Wl w lo hi wb n now S) (k : Only l h w w') (hd : hi ≤ l ∨ h ≤ lo) : Wl w' lo hi wb n now S := by
  obtain ⟨ab, lb, A, L, C, pl, M, I, P, hn, a, b, c⟩ := H
  exact ⟨ab, lb, A, L, C, pl, M.only k (by omega) (by omega) (by omega), I, P, hn, a, b, c⟩

theorem wl_set (H : Wl w lo hi wb n now S) (k t u : Nat) (hk : k < n) (hS : S k = none) (ht : t < 18446744073709551616) (hu : u < 18446744073709551616) :
    Calls Tryd.prog 25 #[.pointer (some ⟨wb, 0, none⟩), .int .i64 k, .int .u64 t, .int .u64 u] w fun e w' => e = .returned (.bool true) ∧ Only lo hi w w' ∧ Wl w' lo hi wb n now (upS S k (some (t, u))) := by
  obtain ⟨ab, lb, A, L, C, pl, M, I, P, hn, a, b, c⟩ := H
  have hb64 := bitLen64 ht M.bd.1
  have hrl := rowN_le now t ht M.bd.1 hb64
  have hsl := slotN_lt hrl
  have hdv : slotN now t / 64 = rowN now t := by unfold slotN; have := digN_lt (rowN now t) t; omega
  have IS := I.set (k := k) (i := slotN now t) (t, u) hk hS hsl
  rw [hdv] at IS
  refine (wset_ok k t u lo hi M ht hu hb64 hk (fun j hj h => ?_) (Nat.lt_of_lt_of_le (I.lt hk hS (by omega)) hn) a b).mono fun e w' ⟨he, ho, hm⟩ => ⟨he, ho, ab, lb, _, _, _, _, hm, IS, fun k' v' hk' hv' => ?_, hn, a, b, fun k' hk' => ?_⟩
  · obtain ⟨v, hv⟩ := (I.is j hj k h).2.1
    rw [hS] at hv; cases hv
  · by_cases e : k' = k
    · subst e
      simp only [upS, if_true] at hv'
      injection hv' with hv'
      subst hv'
      simp [upP]
    · simp only [upS, if_neg e] at hv'
      simp only [upP, if_neg e]
      exact P k' v' hk' hv'
  · have e : k' ≠ k := by omega
    simp only [upS, if_neg e]
    exact c k' hk'
theorem wl_set_no (H : Wl w lo hi wb n now S) (k : Int) (t u : Nat) (hk : (k < 0 ∨ (n : Int) ≤ k) ∨ ∃ v, S k.toNat = some v) (ht : t < 18446744073709551616) :
    Calls Tryd.prog 25 #[.pointer (some ⟨wb, 0, none⟩), .int .i64 k, .int .u64 t, .int .u64 u] w fun e w' => e = .returned (.bool false) ∧ w.grownBy w' none := by
  obtain ⟨ab, lb, A, L, C, pl, M, I, P, hn, a, b, c⟩ := H
  refine wset_no k t u M ht (bitLen64 ht M.bd.1) ?_
  rcases hk with h | ⟨v, hv⟩
  · exact Or.inl h
  · rcases Nat.lt_or_ge k.toNat n with h1 | h1
    · obtain ⟨_, hp, hm⟩ := I.on k.toNat v h1 hv
      exact Or.inr ⟨_, hp, hm⟩
    · rw [c _ h1] at hv; cases hv
theorem wl_unset (H : Wl w lo hi wb n now S) (k : Nat) (v : Nat × Nat) (hk : k < n) (hS : S k = some v) :
    Calls Tryd.prog 24 #[.pointer (some ⟨wb, 0, none⟩), .int .i64 k] w fun e w' => e = .returned (.bool true) ∧ Only lo hi w w' ∧ Wl w' lo hi wb n now (upS S k none) := by
  obtain ⟨ab, lb, A, L, C, pl, M, I, P, hn, a, b, c⟩ := H
  obtain ⟨_, hp, hm⟩ := I.on k v hk hS
  have hC := I.le (r := pl k / 64) (by omega)
  refine (wunset_ok k (pl k) lo hi M hp hm ⟨I.pos hp hm, by omega⟩ a b).mono fun e w' ⟨he, ho, hm'⟩ => ⟨he, ho, ab, lb, _, _, _, pl, hm', I.unset hp hm, fun k' v' hk' hv' => ?_, hn, a, b, fun k' hk' => ?_⟩
  · by_cases e : k' = k
    · subst e; simp [upS] at hv'
    · simp only [upS, if_neg e] at hv'; exact P k' v' hk' hv'
  · by_cases e : k' = k
    · subst e; simp [upS]
    · simp only [upS, if_neg e]; exact c k' hk'
end
end Go.Proofs.YtkkodhjolgcokaaDoor
/-
  A wheel as an object: New, Unset of what isn't set, goOn, First.
-/
namespace Go.Proofs.YtkkodhjolgcokaaDoor
open Go.RowKit Go.Lib
set_option linter.unusedVariables false

theorem flat_nil (r : Nat) : ∀ j, flatL (fun _ => []) r j = []
  | 0 => rfl
  | j + 1 => by simp [flatL, flat_nil r j]
theorem WInv.new (n : Nat) (A : Nat → Nat × Nat) (pl : Nat → Nat) : WInv n A (fun _ => []) (fun _ => 0) (fun _ => none) pl :=
  ⟨fun k v _ h => (by cases h), fun i _ k h => (by cases h), fun i _ => List.nodup_nil, fun r _ => by rw [flat_nil]; rfl⟩

section
variable {w w' : World} {lo hi wb n now : Nat} {S : Nat → Option (Nat × Nat)}

theorem wl_new (a : Int) (now : Nat) (hn : now < 18446744073709551616) (w : World) :
    Calls Tryd.prog 35 #[.int .i64 a, .int .u64 (now : Nat)] w fun e w' => ∃ wb, e = .returned (.pointer (some ⟨wb, 0, none⟩)) ∧ w.grownBy w' none ∧ Wl w' w.heap.size w'.heap.size wb (clampC a) now (fun _ => none) := by
  refine (wnew_any a now hn w).mono fun e w' ⟨wb, ab, he, h1, h2, hg, M⟩ => ⟨wb, he, hg, ab, w.heap.size, _, _, _, fun _ => 0, M, WInv.new _ _ _, fun k v _ h => (by cases h), ?_, ⟨h1, h2, Nat.le_refl _⟩, ⟨M.l.1, M.l.2, LinksAt.sz M.links⟩, fun _ _ => rfl⟩
  unfold clampC; omega
theorem wl_unset_no (H : Wl w lo hi wb n now S) (k : Int) (hS : k < 0 ∨ S k.toNat = none) : Calls Tryd.prog 24 #[.pointer (some ⟨wb, 0, none⟩), .int .i64 k] w fun e w' => e = .returned (.bool false) ∧ w = w' := by
  obtain ⟨ab, lb, A, L, C, pl, M, I, _⟩ := H
  refine wunset_no k M fun i hi x hx e => ?_
  obtain ⟨v, hv⟩ := (I.is i hi x hx).2.1
  rcases hS with h | h
  · omega
  · rw [show k.toNat = x by omega, hv] at h; cases h
theorem wl_goOn (H : Wl w lo hi wb n now S) (tg : Nat) (htg : tg < 18446744073709551616) (hlt : now < tg) (hhw : hi ≤ w.heap.size) :
    Calls Tryd.prog 46 #[.pointer (some ⟨wb, 0, none⟩), .int .u64 (tg : Nat)] w fun e w' => (∃ v, e = .returned v) ∧ Only lo hi w w' ∧ Wl w' lo hi wb n tg S := by
  obtain ⟨ab, lb, A, L, C, pl, M, I, P, hn, a, b, c⟩ := H
  exact (wgoOn tg lo hi M I hn htg hlt P a b hhw).mono fun e w' ⟨he, ho, A', L', C', pl', M', I', P'⟩ => ⟨he, ho, ab, lb, A', L', C', pl', M', I', P', hn, a, b, c⟩

theorem minT_le (A : Nat → Nat × Nat) (F : List Nat) : ∀ j i, i ≤ j → minT A F j ≤ (A (F.getD i 0)).1
  | 0, i, h => by obtain rfl : i = 0 := by omega
                  exact Nat.le_refl _
  | j + 1, i, h => by
    show min (minT A F j) (A (F.getD (j + 1) 0)).1 ≤ _
    by_cases e : i = j + 1
    · subst e; omega
    · have := minT_le A F j i (by omega); omega
theorem minT_in (A : Nat → Nat × Nat) (F : List Nat) : ∀ j, ∃ i, i ≤ j ∧ minT A F j = (A (F.getD i 0)).1
  | 0 => ⟨0, Nat.le_refl _, rfl⟩
  | j + 1 => by
    obtain ⟨i, hi, h⟩ := minT_in A F j
    show ∃ i, i ≤ j + 1 ∧ min (minT A F j) (A (F.getD (j + 1) 0)).1 = _
    rcases Nat.lt_or_ge (minT A F j) (A (F.getD (j + 1) 0)).1 with h1 | h1
    · exact ⟨i, by omega, by rw [← h]; omega⟩
    · exact ⟨j + 1, Nat.le_refl _, by omega⟩

end
end Go.Proofs.YtkkodhjolgcokaaDoor
/-
  A wheel as an object: Len.
-/
namespace Go.Proofs.YtkkodhjolgcokaaDoor
open Go.RowKit Go.Lib
set_option linter.unusedVariables false

/-- How many alarms are set. -/
def setN (S : Nat → Option (Nat × Nat)) (n : Nat) : Nat := sumN (fun k => if (S k).isSome then 1 else 0) n

theorem nodup_count (p : Nat → Bool) : ∀ (n : Nat) (l : List Nat), l.Nodup → (∀ x, x ∈ l ↔ x < n ∧ p x = true) → l.length = sumN (fun k => if p k then 1 else 0) n
  | 0, l, _, h => by
    rcases l with _ | ⟨x, l⟩
    · rfl
    · have := (h x).1 (by simp); omega
  | n + 1, l, hd, h => by
    show l.length = sumN (fun k => if p k then 1 else 0) n + (if p n then 1 else 0)
    by_cases hp : p n = true
    · have hm : n ∈ l := (h n).2 ⟨by omega, hp⟩
      have ih := nodup_count p n (l.erase n) (hd.erase n) (fun x => by
        rw [hd.mem_erase_iff, h x]
        constructor
        · rintro ⟨h1, h2, h3⟩; exact ⟨by omega, h3⟩
        · rintro ⟨h1, h2⟩; exact ⟨by omega, by omega, h2⟩)
      rw [List.length_erase_of_mem hm] at ih
      have h4 := List.length_pos_iff_exists_mem.2 ⟨n, hm⟩
      rw [if_pos hp]; omega
    · rw [if_neg hp, Nat.add_zero]
      exact nodup_count p n l hd (fun x => by
        rw [h x]
        constructor
        · rintro ⟨h1, h2⟩
          refine ⟨?_, h2⟩
          rcases Nat.lt_or_ge x n with h3 | h3
          · exact h3
          · obtain rfl : x = n := by omega
            exact absurd h2 hp
        · rintro ⟨h1, h2⟩; exact ⟨by omega, h2⟩)

section
variable {w w' : World} {lo hi wb n now : Nat} {A : Nat → Nat × Nat} {L : Nat → List Nat} {C pl : Nat → Nat} {S : Nat → Option (Nat × Nat)}
theorem WInv.rows_nodup (I : WInv n A L C S pl) : ∀ r, r ≤ 12 → (rowsL L r).Nodup
  | 0, _ => by simp [rowsL]
  | r + 1, hr => by
    simp only [rowsL]
    rw [List.nodup_append]
    refine ⟨I.rows_nodup r (by omega), I.flat_nodup (by omega) 64 (Nat.le_refl _), fun a ha b hb e => ?_⟩
    subst e
    obtain ⟨i, hi, h1⟩ := (rows_mem r).1 ha
    obtain ⟨c, hc, h2⟩ := (flat_mem 64).1 hb
    have e1 := (I.is i (by omega) a h1).2.2
    have e2 := (I.is (r * 64 + c) (by omega) a h2).2.2
    omega
theorem WInv.rows_sum (I : WInv n A L C S pl) : ∀ r, r ≤ 12 → (rowsL L r).length = sumN C r
  | 0, _ => rfl
  | r + 1, hr => by
    show (rowsL L r ++ flatL L r 64).length = sumN C r + C r
    rw [List.length_append, I.rows_sum r (by omega), I.cnt r (by omega)]
theorem wl_len (H : Wl w lo hi wb n now S) : Calls Tryd.prog 29 #[.pointer (some ⟨wb, 0, none⟩)] w fun e w' => e = .returned (.int .i64 (setN S n : Nat)) ∧ w = w' := by
  obtain ⟨ab, lb, A, L, C, pl, M, I, P, hn, _, _, c⟩ := H
  have h := wlen_any M (fun r hr => Nat.le_trans (I.le hr) hn)
  have e : sumN C 12 = setN S n := by
    rw [← I.rows_sum 12 (Nat.le_refl _)]
    exact nodup_count (fun k => (S k).isSome) n _ (I.rows_nodup 12 (Nat.le_refl _)) (fun x => by
      rw [rows_mem]
      constructor
      · rintro ⟨i, hi, hx⟩
        obtain ⟨h1, ⟨v, hv⟩, _⟩ := I.is i (by omega) x hx
        exact ⟨h1, by rw [hv]; rfl⟩
      · rintro ⟨h1, h2⟩
        obtain ⟨v, hv⟩ := Option.isSome_iff_exists.1 h2
        obtain ⟨_, hp, hm⟩ := I.on x v h1 hv
        exact ⟨pl x, by omega, hm⟩)
  rw [e] at h
  exact h
end
end Go.Proofs.YtkkodhjolgcokaaDoor
/-
  cmp.Compare, cmp.Or: what the wheel's order calls.
-/
namespace Go.Proofs.YtkkodhjolgcokaaDoor
open Go.RowKit Go.Lib
set_option maxRecDepth 100000
set_option linter.unusedVariables false
/-- How two numbers stand. -/
def cmpI (x y : Int) : Int := if x < y then -1 else if y < x then 1 else 0
theorem cmp_u64 (x y : Nat) (w : World) : Calls Tryd.prog 51 #[.int .u64 (x : Nat), .int .u64 (y : Nat)] w fun e w' => e = .returned (.int .i64 (cmpI x y)) ∧ w = w' := by
  have C : ∀ z : Nat, ∀ w : World, Calls Tryd.prog 72 #[.int .u64 (z : Nat)] w fun e w' => e = .returned (.bool false) ∧ w = w' := fun z w => by
    go_enter Tryd.func72, Tryd.ntmps72
    go_wp2
    go_ret
    exact ⟨by simp, rfl⟩
  have CC := Lib.hid C
  clear C
  by_cases h1 : x < y
  · have e : cmpI x y = -1 := by unfold cmpI; rw [if_pos (by omega)]
    rw [e]
    have q1 : (x : Int) < (y : Int) := by omega
    clear e
    go_enter Tryd.func51, Tryd.ntmps51
    go_wp2_with fail
    refine (CC.out _ _).mono ?_
    rintro e w' ⟨rfl, rfl⟩
    go_wp2_with fail
    refine (CC.out _ _).mono ?_
    rintro e w' ⟨rfl, rfl⟩
    go_wp2
    go_ret
    exact ⟨rfl, rfl⟩
  · by_cases h2 : y < x
    · have e : cmpI x y = 1 := by unfold cmpI; rw [if_neg (by omega), if_pos (by omega)]
      rw [e]
      have q1 : ¬ (x : Int) < (y : Int) := by omega
      have q2 : (y : Int) < (x : Int) := by omega
      clear e
      go_enter Tryd.func51, Tryd.ntmps51
      go_wp2_with fail
      refine (CC.out _ _).mono ?_
      rintro e w' ⟨rfl, rfl⟩
      go_wp2_with fail
      refine (CC.out _ _).mono ?_
      rintro e w' ⟨rfl, rfl⟩
      go_wp2
      go_ret
      exact ⟨rfl, rfl⟩
    · have e : cmpI x y = 0 := by unfold cmpI; rw [if_neg (by omega), if_neg (by omega)]
      rw [e]
      have q1 : ¬ (x : Int) < (y : Int) := by omega
      have q2 : ¬ (y : Int) < (x : Int) := by omega
      clear e
      go_enter Tryd.func51, Tryd.ntmps51
      go_wp2_with fail
      refine (CC.out _ _).mono ?_
      rintro e w' ⟨rfl, rfl⟩
      go_wp2_with fail
      refine (CC.out _ _).mono ?_
      rintro e w' ⟨rfl, rfl⟩
      go_wp2
      go_ret
      exact ⟨rfl, rfl⟩
theorem cmp_int (x y : Int) (w : World) : Calls Tryd.prog 52 #[.int .i64 x, .int .i64 y] w fun e w' => e = .returned (.int .i64 (cmpI x y)) ∧ w = w' := by
  have C : ∀ z : Int, ∀ w : World, Calls Tryd.prog 73 #[.int .i64 z] w fun e w' => e = .returned (.bool false) ∧ w = w' := fun z w => by
    go_enter Tryd.func73, Tryd.ntmps73
    go_wp2
    go_ret
    exact ⟨by simp, rfl⟩
  have CC := Lib.hid C
  clear C
  by_cases h1 : x < y
  · have e : cmpI x y = -1 := by unfold cmpI; rw [if_pos (by omega)]
    rw [e]
    clear e
    go_enter Tryd.func52, Tryd.ntmps52
    go_wp2_with fail
    refine (CC.out _ _).mono ?_
    rintro e w' ⟨rfl, rfl⟩
    go_wp2_with fail
    refine (CC.out _ _).mono ?_
    rintro e w' ⟨rfl, rfl⟩
    go_wp2
    go_ret
    exact ⟨rfl, rfl⟩
  · by_cases h2 : y < x
    · have e : cmpI x y = 1 := by unfold cmpI; rw [if_neg (by omega), if_pos (by omega)]
      rw [e]
      clear e
      go_enter Tryd.func52, Tryd.ntmps52
      go_wp2_with fail
      refine (CC.out _ _).mono ?_
      rintro e w' ⟨rfl, rfl⟩
      go_wp2_with fail
      refine (CC.out _ _).mono ?_
      rintro e w' ⟨rfl, rfl⟩
      go_wp2
      go_ret
      exact ⟨rfl, rfl⟩
    · have e : cmpI x y = 0 := by unfold cmpI; rw [if_neg (by omega), if_neg (by omega)]
      rw [e]
      clear e
      go_enter Tryd.func52, Tryd.ntmps52
      go_wp2_with fail
      refine (CC.out _ _).mono ?_
      rintro e w' ⟨rfl, rfl⟩
      go_wp2_with fail
      refine (CC.out _ _).mono ?_
      rintro e w' ⟨rfl, rfl⟩
      go_wp2
      go_ret
      exact ⟨rfl, rfl⟩
/-- The first that isn't zero. -/
def orI (a b c : Int) : Int := if a ≠ 0 then a else if b ≠ 0 then b else c
set_option maxHeartbeats 2000000 in
theorem or_three (a b c : Int) (r : Nat) (w : World) (h0 : w.cell? ⟨r, 0, none⟩ = some (.int .i64 a)) (h1 : w.cell? ⟨r, 1, none⟩ = some (.int .i64 b)) (h2 : w.cell? ⟨r, 2, none⟩ = some (.int .i64 c)) :
    Calls Tryd.prog 50 #[.slice (some ⟨r, 0, none⟩) 3 3] w fun e w' => e = .returned (.int .i64 (orI a b c)) ∧ w = w' := by
  by_cases qa : a = 0
  · subst qa
    by_cases qb : b = 0
    · subst qb
      by_cases qc : c = 0
      · subst qc
        go_enter Tryd.func50, Tryd.ntmps50
        go_wp2_with fail
        refine wp_loop_rounds 4 ?_
        rw [rounds_succ]
        go_wp2_with fail
        rw [rounds_succ]
        go_wp2_with fail
        rw [rounds_succ]
        go_wp2_with fail
        rw [rounds_succ]
        go_wp2
        go_ret
        exact ⟨rfl, rfl⟩
      · have e1 : (c == 0) = false := by simpa using qc
        have e2 : decide (c = 0) = false := by simpa using qc
        go_enter Tryd.func50, Tryd.ntmps50
        go_wp2_with fail
        refine wp_loop_rounds 3 ?_
        rw [rounds_succ]
        go_wp2_with fail
        rw [rounds_succ]
        go_wp2_with fail
        rw [rounds_succ]
        go_wp2
        go_ret
        exact ⟨by simp [orI], rfl⟩
    · have e1 : (b == 0) = false := by simpa using qb
      have e2 : decide (b = 0) = false := by simpa using qb
      go_enter Tryd.func50, Tryd.ntmps50
      go_wp2_with fail
      refine wp_loop_rounds 2 ?_
      rw [rounds_succ]
      go_wp2_with fail
      rw [rounds_succ]
      go_wp2
      go_ret
      exact ⟨by simp [orI, qb], rfl⟩
  · have e1 : (a == 0) = false := by simpa using qa
    have e2 : decide (a = 0) = false := by simpa using qa
    go_enter Tryd.func50, Tryd.ntmps50
    go_wp2_with fail
    refine wp_loop_rounds 1 ?_
    rw [rounds_succ]
    go_wp2
    go_ret
    exact ⟨by simp [orI, qa], rfl⟩
end Go.Proofs.YtkkodhjolgcokaaDoor
