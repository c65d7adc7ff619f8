/-
  One more slot at the end of a cycle.
-/
import Derived.Test.YtacdmolkagcafaaSlotsAt
import Derived.Maps.AppendAt
import Derived.OwnWalk
import Derived.Laws.OwnMore
namespace Go.Proofs.Ytacdmolkagcafaa
open Go.RowKit Go.Lib
set_option maxRecDepth 100000
set_option linter.unusedVariables false

def cellsZ (Z : Nat → Nat → Int) (n : Nat) : List Value := (List.range (n * 2)).map fun j => .int .i64 (Z (j / 2) (j % 2))
def moreZ (Z : Nat → Nat → Int) (n : Nat) (ow nn : Int) : Nat → Nat → Int := fun j i => if j < n then Z j i else if i = 0 then ow else nn

theorem cellsZ_len (Z : Nat → Nat → Int) (n : Nat) : (cellsZ Z n).length = n * 2 := by simp [cellsZ]
theorem cellsZ_at (Z : Nat → Nat → Int) (n j : Nat) (hj : j < n * 2) : (cellsZ Z n)[j]? = some (.int .i64 (Z (j / 2) (j % 2))) := by simp [cellsZ, hj]
theorem cellsZ_one (Z : Nat → Nat → Int) (n : Nat) : ∀ u ∈ cellsZ Z n, u.oneCell' = true := by
  intro u hu
  simp only [cellsZ, List.mem_map] at hu
  obtain ⟨j, _, rfl⟩ := hu
  rfl
theorem cellsZ_src {w : World} {sb off n : Nat} {Z : Nat → Nat → Int} (h : SlAt w (some ⟨sb, off, none⟩) sb off n Z) : ∀ j u, (cellsZ Z n)[j]? = some u → w.cell? ((⟨sb, off, none⟩ : Addr).add j) = some u := fun j u hu => by
  have hj : j < n * 2 := by have := (List.getElem?_eq_some_iff.1 hu).1; rwa [cellsZ_len] at this
  rw [cellsZ_at Z n j hj] at hu
  rw [Addr.add_mid, ← hu]
  rcases Nat.mod_two_eq_zero_or_one j with h2 | h2
  · have := h.own (j / 2) (by omega)
    rw [h2, ← this]; congr 2; omega
  · have := h.len (j / 2) (by omega)
    rw [h2, ← this]; congr 2; omega
theorem row_slots {w : World} {B r cp n : Nat} {e : TypeId} {Z : Nat → Nat → Int} {ow nn : Int} (h : w.ownsRow B e 2 (.slice (some ⟨r, 0, none⟩) (n + 1) cp) (n + 1) (cellsZ Z n ++ [.int .i64 ow, .int .i64 nn])) : SlAt w (some ⟨r, 0, none⟩) r 0 (n + 1) (moreZ Z n ow nn) := by
  refine ⟨fun _ => rfl, fun j hj => ?_, fun j hj => ?_⟩
  · rw [Nat.zero_add, World.ownsRow.cellAt h (j * 2) (by omega)]
    rcases Nat.lt_or_ge j n with h1 | h1
    · rw [List.getElem?_append_left (by rw [cellsZ_len]; omega), cellsZ_at Z n _ (by omega), show j * 2 / 2 = j by omega, show j * 2 % 2 = 0 by omega]
      unfold moreZ; rw [if_pos h1]
    · obtain rfl : j = n := by omega
      rw [List.getElem?_append_right (by rw [cellsZ_len]; omega), cellsZ_len, Nat.sub_self]
      unfold moreZ; rw [if_neg (by omega), if_pos rfl]; rfl
  · rw [Nat.zero_add, World.ownsRow.cellAt h (j * 2 + 1) (by omega)]
    rcases Nat.lt_or_ge j n with h1 | h1
    · rw [List.getElem?_append_left (by rw [cellsZ_len]; omega), cellsZ_at Z n _ (by omega), show (j * 2 + 1) / 2 = j by omega, show (j * 2 + 1) % 2 = 1 by omega]
      unfold moreZ; rw [if_pos h1]
    · obtain rfl : j = n := by omega
      rw [List.getElem?_append_right (by rw [cellsZ_len]; omega), cellsZ_len, show j * 2 + 1 - j * 2 = 1 by omega]
      unfold moreZ; rw [if_neg (by omega), if_neg (by omega)]; rfl

theorem more_right {n : Nat} {Z : Nat → Nat → Int} {tn ow nn : Int} (h : RightP n Z tn) (hn : n ≤ 8) (h0 : 0 ≤ ow) (h1 : ow < tn) (h2 : 1 ≤ nn) (h3 : nn ≤ 1000) : RightP (n + 1) (moreZ Z n ow nn) tn := by
  refine ⟨by omega, h.2.1, h.2.2.1, fun j hj => ?_, fun t ht => ?_⟩
  · rcases Nat.lt_or_ge j n with h4 | h4
    · simp only [moreZ, if_pos h4]; exact h.2.2.2.1 j h4
    · simp only [moreZ, if_neg (show ¬ j < n by omega)]; exact ⟨h0, h1, h2, h3⟩
  · obtain ⟨j, hj, hz⟩ := h.2.2.2.2 t ht
    exact ⟨j, by omega, by simp only [moreZ, if_pos hj]; exact hz⟩
theorem more_low (Z : Nat → Nat → Int) (n : Nat) (ow nn : Int) (k : Nat) (hk : k ≤ n) : sumN (fun i => (moreZ Z n ow nn i 1).toNat) k = sumN (fun i => (Z i 1).toNat) k :=
  sumN_congr k fun i hi => by simp only [moreZ, if_pos (show i < n by omega)]
theorem more_sum (Z : Nat → Nat → Int) (n : Nat) (ow : Int) (nn : Nat) : sumN (fun i => (moreZ Z n ow nn i 1).toNat) (n + 1) = sumN (fun i => (Z i 1).toNat) n + nn := by
  show sumN (fun i => (moreZ Z n ow nn i 1).toNat) n + (moreZ Z n ow nn n 1).toNat = _
  rw [more_low Z n ow nn n (Nat.le_refl _)]
  simp [moreZ]

theorem slot_info : ∃ i : TypeInfo, Try.prog.info? 26 = some i ∧ i.zero = some (.agg #[.int .i64 0, .int .i64 0]) ∧ i.size = 2 ∧ i.bytes = 16 := ⟨_, rfl, rfl, rfl, rfl⟩

theorem row_form {w : World} {B n : Nat} {e : TypeId} {v : Value} {xs : List Value} (h : w.ownsRow B e 2 v n xs) (hn : 0 < n) : ∃ r cp, v = .slice (some ⟨r, 0, none⟩) n cp ∧ B ≤ r ∧ r < w.heap.size := by
  rcases h.2 with ⟨_, h0⟩ | ⟨r, cp, cur, hv, hb, hg, _⟩
  · omega
  · exact ⟨r, cp, hv, hb, (Array.getElem?_eq_some_iff.1 hg).1⟩

theorem two_kept {w w' : World} {b c : Nat} {xs ys : List Value} (h : w.rangeAt b 0 xs ∧ w.rangeAt c 0 ys) (k : w.grownBy w' none) : w'.rangeAt b 0 xs ∧ w'.rangeAt c 0 ys := ⟨rangeAt_kept h.1 k, rangeAt_kept h.2 k⟩
theorem drew_grown (w : World) : w.grownBy w.drew none := ⟨rfl, rfl, rfl, Nat.le_refl _, fun _ _ _ => rfl⟩

/-- Both plans, in the first cycle. -/
theorem both_at {a q : Array Value} {n C : Nat} {Z : Nat → Nat → Int} {ow : Int} {nn : Nat} (hn0 : 0 < n) (hL0 : ∀ i, i < n → 0 < (Z i 1).toNat) (hC : sumN (fun i => (Z i 1).toNat) n = C) (hCl : C ≤ 8000) (t : Nat) (ht : t ≤ C)
    (hp : PlV a (fun i => Z i 0) (fun i => (Z i 1).toNat) n C) (hq : PlV q (fun i => moreZ Z n ow nn i 0) (fun i => (moreZ Z n ow nn i 1).toNat) (n + 1) (C + nn)) : ∃ (o : Int) (b : Bool),
    (∀ v : World, Calls Try.prog 13 #[.agg a, .int .u64 (t : Nat)] v fun e w' => e = .returned (.tuple #[.int .i64 o, .bool b]) ∧ v.grownBy w' none) ∧
    (∀ v : World, Calls Try.prog 13 #[.agg q, .int .u64 (t : Nat)] v fun e w' => e = .returned (.tuple #[.int .i64 o, .bool b]) ∧ v.grownBy w' none) := by
  cases t with
  | zero => exact ⟨0, false, fun v => at_zero hp v, fun v => at_zero hq v⟩
  | succ x =>
    obtain ⟨i, h1, h2⟩ := slot_at hn0 hL0 x
    have hi : i < n := by
      rcases Nat.lt_or_ge i n with h3 | h3
      · exact h3
      · have := begN_le (L := fun i => (Z i 1).toNat) (n := n) h3
        rw [begN_low _ n n (Nat.le_refl _), hC] at this
        omega
    rw [begN_low _ n i (by omega)] at h1
    rw [begN_low _ n (i + 1) (by omega)] at h2
    refine ⟨Z i 0, decide (x + 1 = sumN (fun i => (Z i 1).toNat) (i + 1)), fun v => at_slot hp x i x (by omega) (Nat.mod_eq_of_lt (by omega)).symm hi h1 h2 v, fun v => ?_⟩
    have := at_slot hq x i x (by omega) (Nat.mod_eq_of_lt (by omega)).symm (by omega) (by rw [more_low Z n ow nn i (by omega)]; exact h1) (by rw [more_low Z n ow nn (i + 1) (by omega)]; exact h2) v
    rw [more_low Z n ow nn (i + 1) (by omega)] at this
    have he : moreZ Z n ow nn i 0 = Z i 0 := by simp only [moreZ, if_pos hi]
    rw [he] at this
    exact this
/-- The new slot's ticks. -/
theorem new_at {q : Array Value} {n C : Nat} {Z : Nat → Nat → Int} {ow : Int} {nn : Nat} (hC : sumN (fun i => (Z i 1).toNat) n = C) (hCl : C ≤ 8000) (x : Nat) (hx : x < nn) (hnn : nn ≤ 1000) (b : Bool) (hb : b = decide (x + 1 = nn))
    (hq : PlV q (fun i => moreZ Z n ow nn i 0) (fun i => (moreZ Z n ow nn i 1).toNat) (n + 1) (C + nn)) (z : Nat) (hz : z = C + x + 1) (v : World) :
    Calls Try.prog 13 #[.agg q, .int .u64 (z : Nat)] v fun e w' => e = .returned (.tuple #[.int .i64 ow, .bool b]) ∧ v.grownBy w' none := by
  have hs := more_sum Z n ow nn
  rw [hC] at hs
  have := at_slot hq (C + x) n (C + x) (by omega) (Nat.mod_eq_of_lt (by omega)).symm (by omega) (by rw [more_low Z n ow nn n (Nat.le_refl _), hC]; omega) (by rw [hs]; omega) v
  rw [hs] at this
  have he : moreZ Z n ow nn n 0 = ow := by simp [moreZ]
  have hd : decide (C + x + 1 = C + nn) = b := by rw [hb]; exact decide_eq_decide.2 (by omega)
  rw [he, hd] at this
  rw [hz]
  exact this
end Go.Proofs.Ytacdmolkagcafaa
