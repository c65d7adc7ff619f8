/-
  Contracts of package bits as its callers use them, and of the statements' first test 'alive', over this seat's translation.
-/
import Derived.Test.YtbpmfldegfngaaaDoorBit2
import Derived.Maps.Range
import Derived.Maps.RangeWalk
namespace Go.Proofs.YtbpmfldegfngaaaDoor
open Go.RowKit Go.Lib

theorem TabAt.kept {w w' : World} (h : TabAt w) (hg : w.grownBy w' none) : TabAt w' := fun j hj =>
  (hg.cell_far ⟨0, j, none⟩ (by
    have hc := h j hj
    unfold World.cell? at hc
    simp only at hc
    refine Decidable.byContradiction fun hn => ?_
    rw [Array.getElem?_eq_none (by simpa using hn)] at hc
    cases hc) (by simp)).trans (h j hj)

/-- What is turned in a block that is new leaves all that was as it was. -/
theorem grow_on {W w w' : World} {g : Nat} (h : W.grownBy w none) (k : w.grownBy w' (some g)) (hg : W.heap.size ≤ g) : W.grownBy w' none :=
  h.andThen k (fun j e => by cases e; exact Or.inl hg)
theorem grow_to {W w w' : World} (h : W.grownBy w none) (k : w.grownBy w' none) : W.grownBy w' none := h.trans k

theorem new_made (size : Int) (n : Nat) (hn : clampN size = n) (w : World) :
    Calls Tryd.prog 9 #[.int .i64 size] w fun e w' => ∃ b g, e = .returned (.pointer (some ⟨b, 0, none⟩)) ∧ w.heap.size ≤ b ∧ w.heap.size ≤ g ∧ w.grownBy w' none ∧ SetAt w' b g n (fun _ => false) :=
  (new_any size w).mono fun e w' ⟨h1, h2, h3⟩ => ⟨_, _, h1, by omega, by omega, h2, hn ▸ h3⟩

theorem least_some {f : FuncId} {args : Array Value} {P : Nat → Bool} {n k : Nat} {w : World} (c : Calls Tryd.prog f args w (LeastPost P n k w)) (p : Nat) (h1 : k ≤ p) (h2 : p < n) (h3 : P p = true) (h4 : ∀ q, k ≤ q → q < p → P q = false) :
    Calls Tryd.prog f args w fun e w' => e = .returned (.tuple #[.int .i64 p, .bool true]) ∧ w = w' :=
  c.mono fun e w' hp => by
    obtain ⟨hw, ⟨p', a1, a2, a3, a4, he⟩ | ⟨a1, he⟩⟩ := hp
    · refine ⟨?_, hw⟩
      rcases Nat.lt_trichotomy p' p with h | h | h
      · rw [h4 p' a1 h] at a3; cases a3
      · rw [he, h]
      · rw [a4 p h1 h] at h3; cases h3
    · rw [a1 p h1 h2] at h3; cases h3
theorem least_none {f : FuncId} {args : Array Value} {P : Nat → Bool} {n k : Nat} {w : World} (c : Calls Tryd.prog f args w (LeastPost P n k w)) (h : ∀ q, k ≤ q → q < n → P q = false) :
    Calls Tryd.prog f args w fun e w' => e = .returned (.tuple #[.int .i64 0, .bool false]) ∧ w = w' :=
  c.mono fun e w' hp => by
    obtain ⟨hw, ⟨p', a1, a2, a3, a4, he⟩ | ⟨a1, he⟩⟩ := hp
    · rw [h p' a1 a2] at a3; cases a3
    · exact ⟨he, hw⟩

set_option maxHeartbeats 1000000 in
theorem alive2 (w : World) (hT : TabAt w) : Calls Tryd.prog 8 #[] w fun e w' => e = .returned (.bool true) ∧ w.grownBy w' none := by
  go_enter Tryd.func8, Tryd.ntmps8
  go_wp2_with fail
  refine (new_made 100 100 (by decide) _).mono ?_
  rintro e w1 ⟨b, g, rfl, hb, hg, hG1, hs1⟩
  have c1 : Hid (Calls Tryd.prog 12 #[.pointer (some ⟨b, 0, none⟩), .int .i64 70] w1 _) := Lib.hid (put_in b g 100 70 _ w1 hs1 (by omega) rfl)
  go_wp2_with fail
  refine c1.out.mono ?_
  rintro e w2 ⟨rfl, k2, hs2⟩
  have hG2 := grow_on hG1 k2 hg
  have c2 : Hid (Calls Tryd.prog 12 #[.pointer (some ⟨b, 0, none⟩), .int .i64 3] w2 _) := Lib.hid (put_in b g 100 3 _ w2 hs2 (by omega) rfl)
  clear c1 hs1 k2 hG1
  go_wp2_with fail
  refine c2.out.mono ?_
  rintro e w3 ⟨rfl, k3, hs3⟩
  have hG3 := grow_on hG2 k3 hg
  have c3 : Hid (Calls Tryd.prog 12 #[.pointer (some ⟨b, 0, none⟩), .int .i64 3] w3 _) := Lib.hid (put_had b g 100 3 _ w3 hs3 (by omega) rfl)
  clear c2 hs2 k3 hG2
  go_wp2_with fail
  refine c3.out.mono ?_
  rintro e w4 ⟨rfl, m4, hm4⟩
  have hs4 : SetAt w4 b g 100 (ins (ins (fun _ => false) 70) 3) := hm4 ▸ hs3.drewN m4
  have hG4 : w.grownBy w4 none := grow_to hG3 (hm4 ▸ grow_draw w3 none m4)
  clear hm4 c3 hs3 hG3
  have hT4 := hT.kept hG4
  have c4 : Hid (Calls Tryd.prog 15 #[.pointer (some ⟨b, 0, none⟩), .int .i64 4] w4 fun e w' => e = .returned (.tuple #[.int .i64 70, .bool true]) ∧ w4 = w') :=
    Lib.hid (least_some (next_any b g 100 4 _ w4 hs4 hT4) 70 (by decide) (by decide) rfl (fun q h1 h2 => by
      have : (4 : Int).toNat = 4 := rfl
      simp [ins]; omega))
  have c5 : Hid (Calls Tryd.prog 17 #[.pointer (some ⟨b, 0, none⟩), .int .i64 3] w4 fun e w' => e = .returned (.tuple #[.int .i64 4, .bool true]) ∧ w4 = w') :=
    Lib.hid (least_some (gap_any b g 100 3 _ w4 hs4 hT4) 4 (by decide) (by decide) rfl (fun q h1 h2 => by
      have : (3 : Int).toNat = 3 := rfl
      have : q = 3 := by omega
      subst this
      rfl))
  have c6 : Hid (Calls Tryd.prog 20 #[.pointer (some ⟨b, 0, none⟩)] w4 fun e w' => e = .returned (.int .i64 2) ∧ w4 = w') := Lib.hid (count_any b g 100 _ w4 hs4)
  have c7 : Hid (Calls Tryd.prog 18 #[.pointer (some ⟨b, 0, none⟩), .int .i64 3] w4 fun e w' => e = .returned (.bool true) ∧ ∃ m, w' = w4.drewN m) := Lib.hid (has_in b g 100 3 _ w4 hs4 (by omega))
  clear hT4
  go_wp2_with fail
  refine (c4.out).mono ?_
  rintro e w' ⟨rfl, rfl⟩
  go_wp2_with fail
  refine (c5.out).mono ?_
  rintro e w' ⟨rfl, rfl⟩
  go_wp2_with fail
  refine (c6.out).mono ?_
  rintro e w' ⟨rfl, rfl⟩
  go_wp2_with fail
  refine c7.out.mono ?_
  rintro e w5 ⟨rfl, m5, hm5⟩
  have hs5 : SetAt w5 b g 100 (ins (ins (fun _ => false) 70) 3) := hm5 ▸ hs4.drewN m5
  have hG5 : w.grownBy w5 none := grow_to hG4 (hm5 ▸ grow_draw w4 none m5)
  clear hm5 c4 c5 c6 c7 hs4 hG4
  have c8 : Hid (Calls Tryd.prog 14 #[.pointer (some ⟨b, 0, none⟩), .int .i64 3] w5 _) := Lib.hid (drop_in b g 100 3 _ w5 hs5 (by omega) rfl)
  go_wp2_with fail
  refine c8.out.mono ?_
  rintro e w6 ⟨rfl, k6, hs6⟩
  have hG6 := grow_on hG5 k6 hg
  clear c8 hs5 hG5 k6
  have c9 : Hid (Calls Tryd.prog 14 #[.pointer (some ⟨b, 0, none⟩), .int .i64 3] w6 _) := Lib.hid (drop_not b g 100 3 _ w6 hs6 (by omega) rfl)
  go_wp2_with fail
  refine c9.out.mono ?_
  rintro e w7 ⟨rfl, m7, hm7⟩
  have hs7 : SetAt w7 b g 100 (del (ins (ins (fun _ => false) 70) 3) 3) := hm7 ▸ hs6.drewN m7
  have hG7 : w.grownBy w7 none := grow_to hG6 (hm7 ▸ grow_draw w6 none m7)
  clear hm7 c9 hs6 hG6
  have c10 : Hid (Calls Tryd.prog 19 #[.pointer (some ⟨b, 0, none⟩)] w7 fun e w' => e = .returned (.int .i64 100) ∧ w7 = w') := Lib.hid (size_any b g 100 _ w7 hs7)
  go_wp2_with fail
  refine (c10.out).mono ?_
  rintro e w' ⟨rfl, rfl⟩
  go_wp2
  go_ret
  exact ⟨rfl, hG7⟩

end Go.Proofs.YtbpmfldegfngaaaDoor
