/-
  Whose ticks they are: counted over a cycle.
-/
import Derived.Test.YtacdmolkagcafaaSlotsAt
import Derived.Deep.DeepCutAuto
import Derived.Deep.CutBlock
import Derived.Deep.Onto
namespace Go.Proofs.Ytacdmolkagcafaa
open Go.RowKit Go.Lib
set_option maxRecDepth 100000
set_option linter.unusedVariables false

theorem sumN_one (l : Nat) (h : 0 < l) : sumN (fun y => if y + 1 = l then 1 else 0) l = 1 := by
  obtain ⟨k, rfl⟩ : ∃ k, l = k + 1 := ⟨l - 1, by omega⟩
  show sumN (fun y => if y + 1 = k + 1 then 1 else 0) k + (if k + 1 = k + 1 then 1 else 0) = 1
  rw [if_pos rfl, sumN_congr (g := fun _ => 0) k (fun i hi => if_neg (by omega)), sumN_const]
  omega
theorem sumN_pick (z : Int) (l : Nat) : ∀ tN : Nat, sumN (fun u => if z = (u : Int) then l else 0) tN = if 0 ≤ z ∧ z < tN then l else 0
  | 0 => by rw [if_neg (by omega)]; rfl
  | tN + 1 => by
    show sumN (fun u => if z = (u : Int) then l else 0) tN + (if z = (tN : Int) then l else 0) = _
    rw [sumN_pick z l tN]
    by_cases h : z = (tN : Int)
    · rw [if_pos h, if_neg (by omega), if_pos (by omega)]; omega
    · rw [if_neg h]
      by_cases h2 : 0 ≤ z ∧ z < tN
      · rw [if_pos h2, if_pos (by omega)]; rfl
      · rw [if_neg h2, if_neg (by omega)]
theorem sumN_plus (f g : Nat → Nat) : ∀ n, sumN (fun i => f i + g i) n = sumN f n + sumN g n
  | 0 => rfl
  | n + 1 => by
    show sumN (fun i => f i + g i) n + (f n + g n) = (sumN f n + f n) + (sumN g n + g n)
    rw [sumN_plus f g n]; omega
/-- All tenants' slots together. -/
theorem lens_all {Z : Nat → Nat → Int} {tN n : Nat} (h : okS Z tN n) : ∀ k, k ≤ n → sumN (fun u => lensN Z (u : Int) k) tN = sumN (fun i => (Z i 1).toNat) k
  | 0, _ => by
    show sumN (fun _ => 0) tN = 0
    rw [sumN_const]; omega
  | k + 1, hk => by
    have ih := lens_all h k (by omega)
    show sumN (fun u => lensN Z (u : Int) k + (if Z k 0 = (u : Int) then (Z k 1).toNat else 0)) tN = _ + (Z k 1).toNat
    rw [sumN_plus, ih, sumN_pick, if_pos]
    have := h k (by omega)
    omega

/-- The ticks of a cycle, one by one: each one's slot. -/
structure Tk (Z : Nat → Nat → Int) (n : Nat) (sl : Nat → Nat) : Prop where
  lo : ∀ x, begN (fun i => (Z i 1).toNat) n (sl x) ≤ x
  hi : ∀ x, x < begN (fun i => (Z i 1).toNat) n (sl x + 1)

theorem Tk.same {Z : Nat → Nat → Int} {n : Nat} {sl : Nat → Nat} (T : Tk Z n sl) (hn : 0 < n) (hL : ∀ i, i < n → 0 < (Z i 1).toNat) (x i : Nat) (h1 : begN (fun i => (Z i 1).toNat) n i ≤ x) (h2 : x < begN (fun i => (Z i 1).toNat) n (i + 1)) : sl x = i :=
  slot_one hn hL (T.lo x) (T.hi x) h1 h2
theorem Tk.on {Z : Nat → Nat → Int} {n C : Nat} {sl : Nat → Nat} (T : Tk Z n sl) (hn : 0 < n) (hL : ∀ i, i < n → 0 < (Z i 1).toNat) (hC : sumN (fun i => (Z i 1).toNat) n = C) (x : Nat) : sl (x + C) = sl x + n := by
  have h1 := T.lo x
  have h2 := T.hi x
  have e1 := begN_on (fun i => (Z i 1).toNat) n (sl x) 1
  have e2 := begN_on (fun i => (Z i 1).toNat) n (sl x + 1) 1
  simp only [Nat.one_mul, hC] at e1 e2
  exact T.same hn hL _ _ (by omega) (by rw [show sl x + n + 1 = sl x + 1 + n by omega]; omega)

/-- How many ticks of the first so many are a tenant's; how many end a slot. -/
def tickN (Z : Nat → Nat → Int) (n : Nat) (sl : Nat → Nat) (u : Int) (x : Nat) : Nat := if Z (sl x % n) 0 = u then 1 else 0
def endN (Z : Nat → Nat → Int) (n : Nat) (sl : Nat → Nat) (x : Nat) : Nat := if x + 1 = begN (fun i => (Z i 1).toNat) n (sl x + 1) then 1 else 0

theorem ticks_at {Z : Nat → Nat → Int} {n : Nat} {sl : Nat → Nat} (T : Tk Z n sl) (hn : 0 < n) (hL : ∀ i, i < n → 0 < (Z i 1).toNat) (u : Int) : ∀ N, sumN (tickN Z n sl u) (begN (fun i => (Z i 1).toNat) n N) = sumN (fun i => if Z (i % n) 0 = u then (Z (i % n) 1).toNat else 0) N
  | 0 => rfl
  | N + 1 => by
    rw [begN_succ, sumN_add, ticks_at T hn hL u N]
    show _ = _ + (if Z (N % n) 0 = u then (Z (N % n) 1).toNat else 0)
    have hs : ∀ y, y < (Z (N % n) 1).toNat → sl (begN (fun i => (Z i 1).toNat) n N + y) = N := fun y hy => T.same hn hL _ _ (by omega) (by rw [begN_succ]; omega)
    rw [sumN_congr (f := fun y => tickN Z n sl u (begN (fun i => (Z i 1).toNat) n N + y)) (g := fun _ => if Z (N % n) 0 = u then 1 else 0) _ (fun y hy => by show (if Z (sl _ % n) 0 = u then 1 else 0) = _; rw [hs y hy]), sumN_const]
    by_cases h : Z (N % n) 0 = u
    · simp [h]
    · simp [h]
theorem ends_at {Z : Nat → Nat → Int} {n : Nat} {sl : Nat → Nat} (T : Tk Z n sl) (hn : 0 < n) (hL : ∀ i, i < n → 0 < (Z i 1).toNat) : ∀ N, sumN (endN Z n sl) (begN (fun i => (Z i 1).toNat) n N) = N
  | 0 => rfl
  | N + 1 => by
    rw [begN_succ, sumN_add, ends_at T hn hL N]
    have hs : ∀ y, y < (Z (N % n) 1).toNat → sl (begN (fun i => (Z i 1).toNat) n N + y) = N := fun y hy => T.same hn hL _ _ (by omega) (by rw [begN_succ]; omega)
    rw [sumN_congr (f := fun y => endN Z n sl (begN (fun i => (Z i 1).toNat) n N + y)) (g := fun y => if y + 1 = (Z (N % n) 1).toNat then 1 else 0) _ (fun y hy => by
      show (if _ + y + 1 = begN _ n (sl _ + 1) then 1 else 0) = _
      rw [hs y hy, begN_succ]
      by_cases h : y + 1 = (Z (N % n) 1).toNat
      · rw [if_pos h, if_pos (by omega)]
      · rw [if_neg h, if_neg (by omega)]), sumN_one _ (hL _ (Nat.mod_lt _ hn))]

theorem ticks_all {Z : Nat → Nat → Int} {n C : Nat} {sl : Nat → Nat} (T : Tk Z n sl) (hn : 0 < n) (hL : ∀ i, i < n → 0 < (Z i 1).toNat) (hC : sumN (fun i => (Z i 1).toNat) n = C) (u : Int) (x : Nat) : sumN (fun y => tickN Z n sl u (x + y)) C = lensN Z u n := by
  rw [sumN_window (tickN Z n sl u) C (fun y => by unfold tickN; rw [T.on hn hL hC, Nat.add_mod_right]) x]
  have h := ticks_at T hn hL u n
  rw [begN_low _ n n (Nat.le_refl _), hC] at h
  rw [h]
  exact sumN_congr n fun i hi => by rw [Nat.mod_eq_of_lt hi]
theorem ends_all {Z : Nat → Nat → Int} {n C : Nat} {sl : Nat → Nat} (T : Tk Z n sl) (hn : 0 < n) (hL : ∀ i, i < n → 0 < (Z i 1).toNat) (hC : sumN (fun i => (Z i 1).toNat) n = C) (x : Nat) : sumN (fun y => endN Z n sl (x + y)) C = n := by
  rw [sumN_window (endN Z n sl) C (fun y => by
    unfold endN
    rw [T.on hn hL hC]
    have e2 := begN_on (fun i => (Z i 1).toNat) n (sl y + 1) 1
    simp only [Nat.one_mul, hC] at e2
    rw [show sl y + n + 1 = sl y + 1 + n by omega, e2]
    by_cases h : y + 1 = begN (fun i => (Z i 1).toNat) n (sl y + 1)
    · rw [if_pos h, if_pos (by omega)]
    · rw [if_neg h, if_neg (by omega)]) x]
  have h := ends_at T hn hL n
  rwa [begN_low _ n n (Nat.le_refl _), hC] at h

/-- A row of counts. -/
structure TkAt (w : World) (q tN : Nat) (f : Nat → Nat) : Prop where
  lt : q < w.heap.size
  cell : ∀ u, u < tN → w.cell? ⟨q, u, none⟩ = some (.int .i64 (f u : Nat))
  free : ∀ u, u < tN → w.frozen? ⟨q, u, none⟩ = false
theorem TkAt.kept {w w' : World} {q tN : Nat} {f : Nat → Nat} (h : TkAt w q tN f) (k : w.grownBy w' none) : TkAt w' q tN f :=
  ⟨Nat.lt_of_lt_of_le h.lt k.size, fun u hu => k.cell (h.cell u hu) (by simp), fun u hu => ((Only.of_none (lo := 0) (hi := 0) k).frozen ⟨q, u, none⟩ h.lt (Or.inr (Nat.zero_le _))).trans (h.free u hu)⟩
theorem TkAt.set {w : World} {q tN : Nat} {f g : Nat → Nat} (h : TkAt w q tN f) (u v : Nat) (hu : u < tN) (hg : ∀ j, j < tN → g j = if j = u then v else f j) : TkAt (w.setCell ⟨q, u, none⟩ (.int .i64 (v : Nat))) q tN g := by
  refine ⟨by simpa [World.setCell] using h.lt, fun j hj => ?_, fun j hj => by rw [World.frozen?_setCell]; exact h.free j hj⟩
  rw [hg j hj]
  by_cases e : j = u
  · subst e; rw [World.cell?_setCell_same _ _ _ (h.cell j hj), if_pos rfl]
  · rw [World.cell?_setCell_other _ _ _ _ (by intro x; injection x with _ x2; exact e x2.symm), if_neg e]; exact h.cell j hj

theorem drew_grown (w : World) : w.grownBy w.drew none := ⟨rfl, rfl, rfl, Nat.le_refl _, fun _ _ _ => rfl⟩
theorem tk_make (c : Nat) (hc : c ≤ 1000000) (w : World) :
    (Instr.makeSlice 46 (.int .i64 (c : Int)) (.int .i64 (c : Int))).run Try.prog w = .ok (.slice (some ⟨w.heap.size, 0, none⟩) c c) (w.alloc (.cells (madeCells #[.int .i64 0] c) 3)) := by
  obtain ⟨i, hi, hz⟩ : ∃ i : TypeInfo, Try.prog.info? 3 = some i ∧ i.zero = some (.int .i64 0) ∧ i.bytes = 8 ∧ i.size = 1 := ⟨_, rfl, rfl, rfl, rfl⟩
  have h := run_make (P := Try.prog) w 46 3 i _ Try.underlying46 hi hz.1 .i64 .i64 (c : Int) (c : Int) (by omega) (by omega) (by rw [hz.2.1]; omega) (by omega)
  rw [hz.2.2, Nat.mul_one, Int.toNat_natCast] at h
  exact h
theorem TkAt.new (w : World) (c : Nat) : TkAt (w.alloc (.cells (madeCells #[.int .i64 0] c) 3)) w.heap.size c (fun _ => 0) :=
  ⟨by simp, fun u hu => PlV.cell w 3 (by simp [madeCells, hu, Nat.mod_one]), fun u hu => by simp⟩
end Go.Proofs.Ytacdmolkagcafaa
