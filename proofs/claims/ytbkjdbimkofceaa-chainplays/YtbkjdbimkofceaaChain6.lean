/-
  Contracts of package chain as the statements use them, and of their first test 'alive', over this seat's translation.
-/
import Derived.Test.YtbkjdbimkofceaaChain5
import Derived.Test.YtbkjdbimkofceaaPlain
import Derived.OwnWalk
import Derived.Laws.OwnMore
namespace Go.Proofs.Ytbkjdbimkofceaa
open Go.RowKit Go.Lib
set_option maxRecDepth 100000

def mk (z : Int) : Nat := (z % 64).toNat
theorem mk_lt (z : Int) : mk z < 64 := by unfold mk; omega
theorem mask_mk (z : Int) : bits .and .i64 z 63 = (mk z : Int) := by
  have h := i64_mask 6 (by decide) z
  have e : bits .and .i64 z 63 = z % 64 := h
  rw [e]; unfold mk; omega

theorem LinksAt.congr {w : World} {lo n m : Nat} {L L' : Nat → List Nat} (H : LinksAt w lo n m L) (h : ∀ j, j < m → L j = L' j) : LinksAt w lo n m L' := by
  obtain ⟨bn, bp, bo, bl, N, P, O, H1, H2⟩ := H
  refine ⟨bn, bp, bo, bl, N, P, O, { H1 with cl := fun j hj => by rw [← h j hj]; exact H1.cl j hj }, ⟨fun i hi => h i hi ▸ H2.ring i hi, fun k i hk hi => h i hi ▸ H2.on k i hk hi, H2.offs, fun i hi => h i hi ▸ H2.bound i hi, fun i hi => h i hi ▸ H2.nodup i hi⟩⟩

/-- Is a number on none of the first m lists? -/
def free (L : Nat → List Nat) (m k : Nat) : Bool := (List.range m).all fun j => !(L j).contains k
theorem free_iff (L : Nat → List Nat) (m k : Nat) : free L m k = true ↔ ∀ j, j < m → k ∉ L j := by simp [free]
theorem free_not (L : Nat → List Nat) (m k : Nat) (h : free L m k = false) : ∃ j, j < m ∧ k ∈ L j := by
  have h2 : ¬ ∀ j, j < m → k ∉ L j := fun hh => by rw [(free_iff L m k).2 hh] at h; cases h
  have := Classical.not_forall.1 h2
  obtain ⟨j, hj⟩ := this
  obtain ⟨hj, hk⟩ := Classical.not_imp.1 hj
  exact ⟨j, hj, Classical.not_not.1 hk⟩

/-- The lists behind a number that goes to the end of one, if it may. -/
def pushed (L : Nat → List Nat) (m i k : Nat) : Nat → List Nat := if free L m k then upL L i (L i ++ [k]) else L

theorem new_made (a c : Int) (n m : Nat) (hn : clampN a = n) (hm : clampN c = m) (w : World) :
    Calls Try.prog 7 #[.int .i64 a, .int .i64 c] w fun e w' => ∃ lo, e = .returned (.pointer (some ⟨lo + 4, 0, none⟩)) ∧ w.heap.size ≤ lo ∧ w.grownBy w' none ∧ LinksAt w' lo n m (fun _ => []) :=
  (new_any a c w).mono fun _ _ ⟨h1, h2, h3⟩ => ⟨_, h1, Nat.le_refl _, h2, hm ▸ hn ▸ h3⟩

section
variable {w : World} {lo n m : Nat} {L : Nat → List Nat}
theorem push_g (i k : Nat) (H : LinksAt w lo n m L) (hi : i < m) (hk : k < n) :
    Calls Try.prog 12 #[.pointer (some ⟨lo + 4, 0, none⟩), .int .i64 i, .int .i64 k] w fun e w' => e = .returned (.bool (free L m k)) ∧ Only lo (lo + 5) w w' ∧ LinksAt w' lo n m (pushed L m i k) := by
  cases h : free L m k
  · obtain ⟨j, hj, hm⟩ := free_not L m k h
    refine (push_no i k H (Or.inr (Or.inr ⟨j, hj, by simpa using hm⟩))).mono fun e w' ⟨he, hw⟩ => ?_
    subst hw
    exact ⟨he, Only.refl _ _ _, by unfold pushed; rw [h]; exact H⟩
  · refine (push_ok i k H hi hk ((free_iff L m k).1 h)).mono fun e w' ⟨he, hw, h2⟩ => ⟨he, hw, ?_⟩
    unfold pushed; rw [h]; exact h2
theorem pull_g (k : Nat) (H : LinksAt w lo n m L) :
    Calls Try.prog 14 #[.pointer (some ⟨lo + 4, 0, none⟩), .int .i64 k] w fun e w' => e = .returned (.bool (!free L m k)) ∧ Only lo (lo + 5) w w' ∧ LinksAt w' lo n m (fun j => (L j).erase k) := by
  cases h : free L m k
  · obtain ⟨j, hj, hm⟩ := free_not L m k h
    refine (pull_ok k j H hj hm).mono fun e w' ⟨he, hw, h2⟩ => ⟨he, hw, h2.congr fun i hi => ?_⟩
    by_cases e : i = j
    · subst e; rw [upL_same]
    · rw [upL_other _ _ _ _ e, List.erase_of_not_mem fun h1 => e (H.once i j k hi hj h1 hm)]
  · have hf := (free_iff L m k).1 h
    refine (pull_no k H fun i hi x hx e => hf i hi (by have : x = k := by omega
                                                       subst this; exact hx)).mono fun e w' ⟨he, hw⟩ => ?_
    subst hw
    exact ⟨he, Only.refl _ _ _, H.congr fun i hi => (List.erase_of_not_mem (hf i hi)).symm⟩
end

theorem upL_up (f : Nat → List Nat) (i : Nat) (a b : List Nat) : upL (upL f i a) i b = upL f i b := by
  funext j; by_cases e : j = i <;> simp [upL, e]

set_option maxHeartbeats 2000000 in
theorem alive4 (w : World) : Calls Try.prog 6 #[] w fun e w' => e = .returned (.bool true) ∧ w.grownBy w' none := by
  go_enter Try.func6, Try.ntmps6
  go_wp2_with fail
  refine (new_made 5 2 5 2 (by decide) (by decide) _).mono ?_
  rintro e w1 ⟨lo, rfl, hlo, hG1, H1⟩
  have c1 : Hid (Calls Try.prog 12 #[.pointer (some ⟨lo + 4, 0, none⟩), .int .i64 1, .int .i64 3] w1 _) := Lib.hid (push_ok 1 3 H1 (by decide) (by decide) (fun j _ => by simp))
  clear H1
  go_wp2_with fail
  refine c1.out.mono ?_
  rintro e w2 ⟨rfl, k2, H2⟩
  have hG2 := Only.on hG1 k2 hlo
  have H2' : LinksAt w2 lo 5 2 (upL (fun _ => []) 1 [3]) := H2
  clear c1 H2 hG1 k2
  have c2 : Hid (Calls Try.prog 12 #[.pointer (some ⟨lo + 4, 0, none⟩), .int .i64 1, .int .i64 0] w2 _) := Lib.hid (push_ok 1 0 H2' (by decide) (by decide) (fun j _ => by unfold upL; split <;> simp))
  clear H2'
  go_wp2_with fail
  refine c2.out.mono ?_
  rintro e w3 ⟨rfl, k3, H3⟩
  have hG3 := Only.on hG2 k3 hlo
  have H3' : LinksAt w3 lo 5 2 (upL (fun _ => []) 1 [3, 0]) := by rw [upL_up] at H3; exact H3
  clear c2 H3 hG2 k3
  have c3 : Hid (Calls Try.prog 12 #[.pointer (some ⟨lo + 4, 0, none⟩), .int .i64 1, .int .i64 4] w3 _) := Lib.hid (push_ok 1 4 H3' (by decide) (by decide) (fun j _ => by unfold upL; split <;> simp))
  clear H3'
  go_wp2_with fail
  refine c3.out.mono ?_
  rintro e w4 ⟨rfl, k4, H4⟩
  have hG4 := Only.on hG3 k4 hlo
  have H4' : LinksAt w4 lo 5 2 (upL (fun _ => []) 1 [3, 0, 4]) := by rw [upL_up] at H4; exact H4
  clear c3 H4 hG3 k4
  have c4 : Hid (Calls Try.prog 12 #[.pointer (some ⟨lo + 4, 0, none⟩), .int .i64 0, .int .i64 3] w4 _) := Lib.hid (push_no 0 3 H4' (Or.inr (Or.inr ⟨1, by decide, by simp [upL]⟩)))
  have c5 : Hid (Calls Try.prog 14 #[.pointer (some ⟨lo + 4, 0, none⟩), .int .i64 0] w4 _) := Lib.hid (pull_ok 0 1 H4' (by decide) (by simp [upL]))
  clear H4'
  go_wp2_with fail
  refine (c4.out).mono ?_
  rintro e w' ⟨rfl, rfl⟩
  go_wp2_with fail
  refine c5.out.mono ?_
  rintro e w5 ⟨rfl, k5, H5⟩
  have hG5 := Only.on hG4 k5 hlo
  have H5' : LinksAt w5 lo 5 2 (upL (fun _ => []) 1 [3, 4]) := by rw [upL_up] at H5; exact H5
  clear c4 c5 H5 hG4 k5
  have c6 : Hid (Calls Try.prog 33 #[.pointer (some ⟨lo + 4, 0, none⟩), .int .i64 1] w5 fun e w' => e = .returned (.tuple #[.int .i64 3, .bool true]) ∧ w5.grownBy w' none) := Lib.hid (first_some 1 3 [4] H5' (by decide) rfl)
  go_wp2_with fail
  refine c6.out.mono ?_
  rintro e w6 ⟨rfl, k6⟩
  have hG6 := grow_to hG5 k6
  have H6 := H5'.kept (Only.of_none (lo := 0) (hi := 0) k6) (Or.inr (by omega))
  clear c6 H5' hG5 k6
  have c7 : Hid (Calls Try.prog 34 #[.pointer (some ⟨lo + 4, 0, none⟩), .int .i64 4] w6 fun e w' => e = .returned (.tuple #[.int .i64 1, .bool true]) ∧ w6 = w') := Lib.hid (on_some 4 1 H6 (by decide) (by simp [upL]))
  go_wp2_with fail
  refine (c7.out).mono ?_
  rintro e w' ⟨rfl, rfl⟩
  have c8 : Hid (Calls Try.prog 35 #[.pointer (some ⟨lo + 4, 0, none⟩), .int .i64 1] w6 fun e w' => e = .returned (.int .i64 2) ∧ w6 = w') := Lib.hid (len_in 1 H6 (by decide))
  go_wp2_with fail
  refine (c8.out).mono ?_
  rintro e w' ⟨rfl, rfl⟩
  have c9 : Hid (Calls Try.prog 37 #[.pointer (some ⟨lo + 4, 0, none⟩), .int .i64 1] w6 fun e w' => ∃ r cp, e = .returned (.slice (some ⟨r, 0, none⟩) 2 cp) ∧ w6.grownBy w' none ∧ RowOf w' w6.heap.size r cp [3, 4]) := Lib.hid (all_in 1 H6 (by decide))
  go_wp2_with fail
  refine c9.out.mono ?_
  rintro e w7 ⟨r, cp, rfl, k7, R7⟩
  have hG7 := grow_to hG6 k7
  have H7 := H6.kept (Only.of_none (lo := 0) (hi := 0) k7) (Or.inr (by omega))
  clear c7 c8 c9 H6 hG6 k7
  have k8 := World.grownBy_alloc w7 (.cells #[.int .i64 3, .int .i64 4] 3) none
  have R8 := (R7.kept k8 (by simp)).reads
  have Q8 : Reads (w7.alloc (.cells #[.int .i64 3, .int .i64 4] 3)) (.slice (some ⟨w7.heap.size, 0, none⟩) 2 2) [3, 4] :=
    ⟨_, _, rfl, fun j hj => ⟨w7.heap.size, 0, rfl, by simp, by
      have hj2 : j < 2 := hj
      rw [World.cell?_alloc_new]
      match j, hj2 with
      | 0, _ => rfl
      | 1, _ => rfl⟩⟩
  have C8 : Hid (Calls Try.prog 36 #[.slice (some ⟨r, 0, none⟩) 2 cp, .slice (some ⟨w7.heap.size, 0, none⟩) 2 2] (w7.alloc (.cells #[.int .i64 3, .int .i64 4] 3)) _) := Lib.hid (same_yes R8 Q8 (by decide))
  have hG8 := grow_to hG7 k8
  have H8 := H7.kept (Only.of_none (lo := 0) (hi := 0) k8) (Or.inr (by omega))
  clear R7 R8 Q8 H7 hG7 k8
  go_wp2_with fail
  refine C8.out.mono ?_
  rintro e w9 ⟨rfl, k9⟩
  have hG9 := grow_to hG8 k9
  have H9 := H8.kept (Only.of_none (lo := 0) (hi := 0) k9) (Or.inr (by omega))
  clear C8 H8 hG8 k9
  have d1 : Hid (Calls Try.prog 35 #[.pointer (some ⟨lo + 4, 0, none⟩), .int .i64 0] w9 fun e w' => e = .returned (.int .i64 0) ∧ w9 = w') := Lib.hid (len_in 0 H9 (by decide))
  have d2 : Hid (Calls Try.prog 9 #[.pointer (some ⟨lo + 4, 0, none⟩)] w9 fun e w' => e = .returned (.int .i64 5) ∧ w9 = w') := Lib.hid (numbers_any H9)
  have d3 : Hid (Calls Try.prog 10 #[.pointer (some ⟨lo + 4, 0, none⟩)] w9 fun e w' => e = .returned (.int .i64 2) ∧ w9 = w') := Lib.hid (lists_any H9)
  clear H9
  go_wp2_with fail
  refine (d1.out).mono ?_
  rintro e w' ⟨rfl, rfl⟩
  go_wp2_with fail
  refine (d2.out).mono ?_
  rintro e w' ⟨rfl, rfl⟩
  go_wp2_with fail
  refine (d3.out).mono ?_
  rintro e w' ⟨rfl, rfl⟩
  go_wp2
  go_ret
  exact ⟨rfl, hG9⟩

end Go.Proofs.Ytbkjdbimkofceaa
