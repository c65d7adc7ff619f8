/-
  Contracts of package ledger, over this seat's translation, for a book of numbers: how a book lies in memory; find.
-/
import Derived.Test.YtchookgdajkipaaFrame
import Derived.Test.YtchookgdajkipaaInts
import Derived.Test.YtchookgdajkipaaLed0
import Derived.Deep.RegionHeld3
import Derived.Deep.DeepCutAuto
namespace Go.Proofs.Ytchookgdajkipaa.LI
open Go.RowKit Go.Lib
set_option maxRecDepth 100000

def kv (k : Int) : Value := .int .i64 k
def klt (a b : Int) : Bool := decide (a < b)
def keq (a b : Int) : Bool := decide (a = b)
theorem klt_trans {a b c : Int} (h : klt a b = true) (k : klt b c = true) : klt a c = true := by simp [klt] at *; omega
theorem klt_irr (a : Int) : klt a a = false := by simp [klt]
theorem klt_tri (a b : Int) : klt a b = true ∨ keq a b = true ∨ klt b a = true := by simp [klt, keq]; omega
theorem keq_iff (a b : Int) : keq a b = true ↔ a = b := by simp [keq]

/-- A book's lines as the cells of a row. -/
def lcells (K : Nat → Int) (M U : Nat → Int) : Nat → List Value
  | 0 => []
  | n + 1 => lcells K M U n ++ [kv (K n), .int .i64 (M n), .int .i64 (U n)]
theorem lcells_len (K : Nat → Int) (M U : Nat → Int) : ∀ n, (lcells K M U n).length = n * 3
  | 0 => rfl
  | n + 1 => by simp [lcells, lcells_len K M U n]; omega
theorem lcells_at (K : Nat → Int) (M U : Nat → Int) : ∀ n j, j < n → (lcells K M U n)[j * 3]? = some (kv (K j)) ∧ (lcells K M U n)[j * 3 + 1]? = some (.int .i64 (M j)) ∧ (lcells K M U n)[j * 3 + 2]? = some (.int .i64 (U j))
  | n + 1, j, hj => by
    have hl := lcells_len K M U n
    by_cases h : j < n
    · obtain ⟨a, b, c⟩ := lcells_at K M U n j h
      simp only [lcells]
      rw [List.getElem?_append_left (by omega), List.getElem?_append_left (by omega), List.getElem?_append_left (by omega)]
      exact ⟨a, b, c⟩
    · obtain rfl : j = n := by omega
      simp only [lcells]
      rw [List.getElem?_append_right (by omega), List.getElem?_append_right (by omega), List.getElem?_append_right (by omega), hl]
      simp
theorem lcells_congr {K K' : Nat → Int} {M M' U U' : Nat → Int} : ∀ {n}, (∀ j, j < n → K j = K' j ∧ M j = M' j ∧ U j = U' j) → lcells K M U n = lcells K' M' U' n
  | 0, _ => rfl
  | n + 1, h => by
    obtain ⟨a, b, c⟩ := h n (by omega)
    simp only [lcells]
    rw [lcells_congr (fun j hj => h j (by omega)), a, b, c]
theorem lcells_one (K : Nat → Int) (M U : Nat → Int) : ∀ n, ∀ u ∈ lcells K M U n, u.oneCell' = true
  | 0, u, h => by simp [lcells] at h
  | n + 1, u, h => by
    simp only [lcells, List.mem_append] at h
    rcases h with h | h
    · exact lcells_one K M U n u h
    · simp only [List.mem_cons, List.not_mem_nil, or_false] at h
      rcases h with rfl | rfl | rfl <;> rfl

/-- A book: its struct in block bb, which holds the slice v; the row that v owns holds n lines, by rising keys. -/
structure Bk (w : World) (B bb : Nat) (v : Value) (n : Nat) (K : Nat → Int) (M U : Nat → Int) : Prop where
  c0 : w.cell? ⟨bb, 0, none⟩ = some v
  f0 : w.frozen? ⟨bb, 0, none⟩ = false
  own : w.ownsRow B 67 3 v n (lcells K M U n)
  srt : ∀ i j, i < j → j < n → klt (K i) (K j) = true
  bd : ∀ j, j < n → 0 ≤ M j ∧ M j < 9223372036854775808 ∧ 0 ≤ U j ∧ U j < 9223372036854775808
  nb : some bb ≠ v.ownBlock
  lb : B ≤ bb ∧ bb < w.heap.size
  hn : n ≤ 1000000

section
variable {w w' w2 : World} {B bb n : Nat} {v : Value} {K : Nat → Int} {M U : Nat → Int} {o : Option Nat}
theorem Bk.kept (H : Bk w B bb v n K M U) (k : w.grownBy w' none) : Bk w' B bb v n K M U :=
  ⟨(k.cell_far ⟨bb, 0, none⟩ H.lb.2 (by simp)).trans H.c0, (k.frozen_far ⟨bb, 0, none⟩ H.lb.2 (by simp)).trans H.f0, H.own.kept k (by cases v.ownBlock with | none => exact Or.inl rfl | some r => exact Or.inr (by simp)), H.srt, H.bd, H.nb, ⟨H.lb.1, Nat.lt_of_lt_of_le H.lb.2 k.size⟩, H.hn⟩
theorem Bk.rowlt (H : Bk w B bb v n K M U) (r : Nat) (h : v.ownBlock = some r) : B ≤ r ∧ r < w.heap.size := H.own.lt r h
/-- A book behind what is done with another one. -/
theorem Bk.off {b2 : Nat} (H : Bk w B bb v n K M U) (k : Off b2 o w w') (h1 : bb ≠ b2) (h2 : some bb ≠ o) (h3 : v.ownBlock ≠ some b2) (h4 : v.ownBlock = none ∨ v.ownBlock ≠ o) : Bk w' B bb v n K M U := by
  have eb := k.block bb H.lb.2 h1 h2
  refine ⟨(World.cell?_of_block (a := ⟨bb, 0, none⟩) eb).trans H.c0, (World.frozen?_of_block (a := ⟨bb, 0, none⟩) eb).trans H.f0, ?_, H.srt, H.bd, H.nb, ⟨H.lb.1, Nat.lt_of_lt_of_le H.lb.2 k.size⟩, H.hn⟩
  obtain ⟨hl, h⟩ := H.own
  refine ⟨hl, ?_⟩
  rcases h with h | ⟨g, cap, cur, rfl, hb, hg, rest⟩
  · exact Or.inl h
  · refine Or.inr ⟨g, cap, cur, rfl, hb, ?_, rest⟩
    have hlt := (Array.getElem?_eq_some_iff.1 hg).1
    rw [k.block g hlt (fun e => h3 (by rw [e]; rfl)) (fun e => by rcases h4 with h4 | h4; cases h4; exact h4 e)]
    exact hg
/-- The row of a book that has lines. -/
theorem Bk.row (H : Bk w B bb v n K M U) (hn : 0 < n) : ∃ r cap, v = .slice (some ⟨r, 0, none⟩) n cap ∧ r ≠ bb ∧ B ≤ r ∧ r < w.heap.size ∧ ∀ j, j < n → w.cell? ⟨r, j * 3, none⟩ = some (kv (K j)) ∧ w.cell? ⟨r, j * 3 + 1, none⟩ = some (.int .i64 (M j)) ∧ w.cell? ⟨r, j * 3 + 2, none⟩ = some (.int .i64 (U j)) ∧ ∀ i, w.frozen? ⟨r, i, none⟩ = false := by
  have ho := H.own
  rcases H.own.2 with ⟨_, h⟩ | ⟨g, cap, cur, rfl, hb, hg, rest⟩
  · omega
  · have hlt := (Array.getElem?_eq_some_iff.1 hg).1
    refine ⟨g, cap, rfl, fun e => H.nb (by rw [← e]; rfl), hb, hlt, fun j hj => ?_⟩
    obtain ⟨a, b, c⟩ := lcells_at K M U n j hj
    exact ⟨(ho.cellAt _ (by omega)).trans a, (ho.cellAt _ (by omega)).trans b, (ho.cellAt _ (by omega)).trans c, fun i => ho.frozenAt i⟩
end

theorem nan_any (k : Int) (w : World) : Calls Try.prog 44 #[kv k] w fun e w' => e = .returned (.bool false) ∧ w = w' := by
  unfold kv
  go_enter Try.func44, Try.ntmps44
  go_wp2
  go_ret
  exact ⟨rfl, rfl⟩

/-- What a comparison answers. -/
def cmpOf (a b : Int) : Int := if klt a b then -1 else if keq a b then 0 else 1
set_option maxHeartbeats 1000000 in
theorem compare_any (a b : Int) (w : World) : Calls Try.prog 39 #[kv a, kv b] w fun e w' => e = .returned (.int .i64 (cmpOf a b)) ∧ w = w' := by
  have C1 := Lib.hid (fun v : World => nan_any a v)
  have C2 := Lib.hid (fun v : World => nan_any b v)
  unfold kv at *
  rcases Int.lt_trichotomy a b with h | h | h
  · have e : cmpOf a b = -1 := by simp [cmpOf, klt, h]
    rw [e]
    clear e
    go_enter Try.func39, Try.ntmps39
    go_wp2_with fail
    refine (C1.out _).mono ?_
    rintro e w' ⟨rfl, rfl⟩
    go_wp2_with fail
    refine (C2.out _).mono ?_
    rintro e w' ⟨rfl, rfl⟩
    go_wp2
    go_ret
    exact ⟨rfl, rfl⟩
  · have e : cmpOf a b = 0 := by simp [cmpOf, klt, keq, h]
    rw [e]
    clear e
    subst h
    go_enter Try.func39, Try.ntmps39
    go_wp2_with fail
    refine (C1.out _).mono ?_
    rintro e w' ⟨rfl, rfl⟩
    go_wp2_with fail
    refine (C2.out _).mono ?_
    rintro e w' ⟨rfl, rfl⟩
    go_wp2
    go_ret
    exact ⟨rfl, rfl⟩
  · have e : cmpOf a b = 1 := by
      have h1 : ¬ a < b := by omega
      have h2 : ¬ a = b := by omega
      simp [cmpOf, klt, keq, h1, h2]
    rw [e]
    clear e
    have h1 : ¬ a < b := by omega
    go_enter Try.func39, Try.ntmps39
    go_wp2_with fail
    refine (C1.out _).mono ?_
    rintro e w' ⟨rfl, rfl⟩
    go_wp2_with fail
    refine (C2.out _).mono ?_
    rintro e w' ⟨rfl, rfl⟩
    go_wp2
    go_ret
    exact ⟨rfl, rfl⟩

theorem f1_any (k key : Int) (m u : Int) (w : World) : Calls Try.prog 38 #[.agg #[kv k, .int .i64 m, .int .i64 u], kv key] w fun e w' => e = .returned (.int .i64 (cmpOf k key)) ∧ w.grownBy w' none := by
  have C := Lib.hid (fun v : World => compare_any k key v)
  have ka := World.grownBy_alloc w (.cells #[kv k, .int .i64 m, .int .i64 u] 67) none
  generalize cmpOf k key = c at *
  unfold kv at *
  go_enter Try.func38, Try.ntmps38
  go_wp2_with fail
  refine (C.out _).mono ?_
  rintro e w' ⟨rfl, rfl⟩
  go_wp2
  go_ret
  exact ⟨rfl, ka⟩
end Go.Proofs.Ytchookgdajkipaa.LI
