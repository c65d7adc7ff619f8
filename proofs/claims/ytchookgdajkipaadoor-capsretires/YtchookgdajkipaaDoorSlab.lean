/-
  Contracts of package slab for regions of ints, over this seat's translation: how a region lies in memory, and what each call answers and leaves.
-/
import Derived.Test.YtchookgdajkipaaDoorTouch
namespace Go.Proofs.YtchookgdajkipaaDoor.SI
open Go.RowKit Go.Lib
set_option maxRecDepth 100000

/-- A region: its struct in block rb from ro on, its places in block pb from po on, its set in blocks b and g. -/
structure RegMem (w : World) (rb ro pb po b g n : Nat) (S : Nat → Bool) (V : Nat → Int) : Prop where
  c0 : w.cell? ⟨rb, ro, none⟩ = some (.slice (some ⟨pb, po, none⟩) n n)
  c1 : w.cell? ⟨rb, ro + 1, none⟩ = some (.pointer (some ⟨b, 0, none⟩))
  cv : ∀ j, j < n → w.cell? ⟨pb, po + j, none⟩ = some (.int .i64 (V j))
  fv : ∀ j, j < n → w.frozen? ⟨pb, po + j, none⟩ = false
  set : SetAt w b g n S
  hn : n ≤ 256
  d : rb ≠ pb ∧ rb ≠ b ∧ rb ≠ g ∧ pb ≠ b ∧ pb ≠ g
  l : rb < w.heap.size ∧ pb < w.heap.size

section
variable {w : World} {rb ro pb po b g n : Nat} {S : Nat → Bool} {V : Nat → Int}

theorem RegMem.only {w' : World} {lo hi : Nat} (H : RegMem w rb ro pb po b g n S V) (k : Only lo hi w w') (h1 : rb < lo ∨ hi ≤ rb) (h2 : pb < lo ∨ hi ≤ pb) (h3 : b < lo ∨ hi ≤ b) (h4 : g < lo ∨ hi ≤ g) : RegMem w' rb ro pb po b g n S V :=
  ⟨(k.cell' rb _ H.l.1 h1).trans H.c0, (k.cell' rb _ H.l.1 h1).trans H.c1, fun j hj => (k.cell' pb _ H.l.2 h2).trans (H.cv j hj), fun j hj => (k.frozen' pb _ H.l.2 h2).trans (H.fv j hj), H.set.only k h3 h4, H.hn, H.d, ⟨Nat.lt_of_lt_of_le H.l.1 k.size, Nat.lt_of_lt_of_le H.l.2 k.size⟩⟩
theorem RegMem.kept {w' : World} (H : RegMem w rb ro pb po b g n S V) (k : w.grownBy w' none) : RegMem w' rb ro pb po b g n S V :=
  H.only (Only.of_none (lo := 0) (hi := 0) k) (Or.inr (by omega)) (Or.inr (by omega)) (Or.inr (by omega)) (Or.inr (by omega))
/-- Another region of the same slab stays as it is. -/
theorem RegMem.touch {w' : World} {g' po' n' : Nat} (H : RegMem w rb ro pb po b g n S V) (k : Touch g' pb po' n' w w') (h1 : rb ≠ g') (h2 : b ≠ g') (h3 : g ≠ g') (h4 : po + n ≤ po' ∨ po' + n' ≤ po) : RegMem w' rb ro pb po b g n S V :=
  ⟨(k.far rb _ H.l.1 h1 H.d.1).trans H.c0, (k.far rb _ H.l.1 h1 H.d.1).trans H.c1, fun j hj => (k.cell _ (by omega)).trans (H.cv j hj), fun j hj => (k.frz _).trans (H.fv j hj), H.set.touch k ⟨h2, fun e => H.d.2.2.2.1 e.symm⟩ ⟨h3, fun e => H.d.2.2.2.2 e.symm⟩, H.hn, H.d, ⟨Nat.lt_of_lt_of_le H.l.1 k.size, Nat.lt_of_lt_of_le H.l.2 k.size⟩⟩
theorem RegMem.setV (H : RegMem w rb ro pb po b g n S V) (k : Nat) (hk : k < n) (v : Int) : RegMem (w.setCell ⟨pb, po + k, none⟩ (.int .i64 v)) rb ro pb po b g n S (upV V k v) := by
  obtain ⟨d1, d2, d3, d4, d5⟩ := H.d
  have T : Touch g pb po n w (w.setCell ⟨pb, po + k, none⟩ (.int .i64 v)) := Touch.set w _ _ (by omega) (by omega)
  have ot : ∀ c j, c ≠ pb → (w.setCell ⟨pb, po + k, none⟩ (.int .i64 v)).cell? ⟨c, j, none⟩ = w.cell? ⟨c, j, none⟩ := fun c j hc => World.cell?_setCell_other _ _ _ _ (by intro e; cases e; exact hc rfl)
  refine ⟨(ot _ _ d1).trans H.c0, (ot _ _ d1).trans H.c1, fun j hj => ?_, fun j hj => (T.frz _).trans (H.fv j hj), ?_, H.hn, H.d, by rw [size_set]; exact H.l⟩
  · by_cases e : j = k
    · subst e; rw [upV_same]; exact World.cell?_setCell_same _ _ _ (H.cv j hj)
    · rw [upV_other _ _ _ _ e, World.cell?_setCell_other _ _ _ _ (by intro e'; injection e' with e1 e2; omega)]; exact H.cv j hj
  · have h := H.set
    have ff : ∀ c j, (w.setCell ⟨pb, po + k, none⟩ (.int .i64 v)).frozen? ⟨c, j, none⟩ = w.frozen? ⟨c, j, none⟩ := fun c j => World.frozen?_setCell ..
    exact ⟨h.size, h.bound, (ot _ _ (Ne.symm d4)).trans h.c0, (ot _ _ (Ne.symm d4)).trans h.c1, fun j hj => (ot _ _ (Ne.symm d5)).trans (h.cw j hj), fun j hj => (ff _ _).trans (h.cf j hj), h.bg, by rw [size_set]; exact h.hb, by rw [size_set]; exact h.hg⟩
/-- The set has turned, the places have not. -/
theorem RegMem.setS {w' : World} {S' : Nat → Bool} (H : RegMem w rb ro pb po b g n S V) (k : w.grownBy w' (some g)) (hs : SetAt w' b g n S') : RegMem w' rb ro pb po b g n S' V := by
  obtain ⟨d1, d2, d3, d4, d5⟩ := H.d
  have e1 : (some rb : Option Nat) ≠ some g := fun h => by cases h; exact d3 rfl
  have e2 : (some pb : Option Nat) ≠ some g := fun h => by cases h; exact d5 rfl
  exact ⟨(k.cell_far ⟨rb, ro, none⟩ H.l.1 e1).trans H.c0, (k.cell_far ⟨rb, ro + 1, none⟩ H.l.1 e1).trans H.c1, fun j hj => (k.cell_far ⟨pb, po + j, none⟩ H.l.2 e2).trans (H.cv j hj), fun j hj => (k.frozen_far ⟨pb, po + j, none⟩ H.l.2 e2).trans (H.fv j hj), hs, H.hn, H.d, ⟨Nat.lt_of_lt_of_le H.l.1 k.size, Nat.lt_of_lt_of_le H.l.2 k.size⟩⟩

theorem room_any (H : RegMem w rb ro pb po b g n S V) : Calls Tryd.prog 46 #[.pointer (some ⟨rb, ro, none⟩)] w fun e w' => e = .returned (.int .i64 (n : Int)) ∧ w = w' := by
  have h0 := H.c0
  clear H
  go_enter Tryd.func46, Tryd.ntmps46
  go_wp2
  go_ret
  exact ⟨rfl, rfl⟩
theorem count_any (H : RegMem w rb ro pb po b g n S V) : Calls Tryd.prog 45 #[.pointer (some ⟨rb, ro, none⟩)] w fun e w' => e = .returned (.int .i64 (cnt S n : Nat)) ∧ w = w' := by
  have h1 := H.c1
  have C := Lib.hid (Go.Proofs.YtchookgdajkipaaDoor.count_any b g n S w H.set)
  clear H
  go_enter Tryd.func45, Tryd.ntmps45
  go_wp2_with fail
  refine (C.out).mono ?_
  rintro e w' ⟨rfl, rfl⟩
  go_wp2
  go_ret
  exact ⟨rfl, rfl⟩
theorem has_any (k : Int) (v : Bool) (H : RegMem w rb ro pb po b g n S V) (hv : (0 ≤ k ∧ k < n ∧ S k.toNat = v) ∨ ((k < 0 ∨ (n : Int) ≤ k) ∧ v = false)) :
    Calls Tryd.prog 55 #[.pointer (some ⟨rb, ro, none⟩), .int .i64 k] w fun e w' => e = .returned (.bool v) ∧ w.grownBy w' none := by
  have h1 := H.c1
  have C := Lib.hid (has_g b g n k S w H.set v hv)
  clear H hv
  go_enter Tryd.func55, Tryd.ntmps55
  go_wp2_with fail
  refine C.out.mono ?_
  rintro e w' ⟨rfl, hw⟩
  go_wp2
  go_ret
  exact ⟨rfl, hw⟩

set_option maxHeartbeats 1000000 in
theorem take_some (p : Nat) (v : Int) (H : RegMem w rb ro pb po b g n S V) (hT : TabAt w) (hp : p < n) (hS : S p = false) (hl : ∀ q, q < p → S q = true) :
    Calls Tryd.prog 40 #[.pointer (some ⟨rb, ro, none⟩), .int .i64 v] w fun e w' => e = .returned (.tuple #[.int .i64 p, .bool true]) ∧ Touch g pb po n w w' ∧ RegMem w' rb ro pb po b g n (ins S p) (upV V p v) := by
  have h1 := H.c1
  have C1 := Lib.hid (least_some (gap_any b g n 0 S w H.set hT) p (by simp) hp (by simp [hS]) (fun q _ hq => by simp [hl q hq]))
  have C2 := Lib.hid (put_in b g n p S w H.set hp hS)
  have HH := Lib.hid H
  have hn := H.hn
  clear H hl
  go_enter Tryd.func40, Tryd.ntmps40
  go_wp2_with fail
  refine (C1.out).mono ?_
  rintro e w' ⟨rfl, rfl⟩
  go_wp2_with fail
  refine C2.out.mono ?_
  rintro e w1 ⟨rfl, k1, hs1⟩
  have H1 := HH.out.setS k1 hs1
  have T1 : Hid (Touch g pb po n w w1) := Lib.hid (Touch.of_grown k1 HH.out.l.2 HH.out.d.2.2.2.2)
  have T2 : Hid (Touch g pb po n w1 (w1.setCell ⟨pb, po + p, none⟩ (.int .i64 v))) := Lib.hid (Touch.set w1 _ _ (by omega) (by omega))
  have h0 := H1.c0
  have hv := H1.cv p hp
  have hf := H1.fv p hp
  have H2 := Lib.hid (H1.setV p hp v)
  clear k1 hs1 H1 HH C1 C2 h1 hS
  go_wp2
  go_ret2
  exact ⟨rfl, T1.out.trans T2.out, H2.out⟩
theorem take_none (v : Int) (H : RegMem w rb ro pb po b g n S V) (hT : TabAt w) (hl : ∀ q, q < n → S q = true) :
    Calls Tryd.prog 40 #[.pointer (some ⟨rb, ro, none⟩), .int .i64 v] w fun e w' => e = .returned (.tuple #[.int .i64 0, .bool false]) ∧ w = w' := by
  have h1 := H.c1
  have C1 := Lib.hid (least_none (gap_any b g n 0 S w H.set hT) (fun q _ hq => by simp [hl q hq]))
  clear H hl
  go_enter Tryd.func40, Tryd.ntmps40
  go_wp2_with fail
  refine (C1.out).mono ?_
  rintro e w' ⟨rfl, rfl⟩
  go_wp2
  go_ret2
  exact ⟨rfl, rfl⟩

set_option maxHeartbeats 1000000 in
theorem give_in (p : Nat) (H : RegMem w rb ro pb po b g n S V) (hp : p < n) (hS : S p = true) :
    Calls Tryd.prog 42 #[.pointer (some ⟨rb, ro, none⟩), .int .i64 p] w fun e w' => e = .returned (.bool true) ∧ Touch g pb po n w w' ∧ RegMem w' rb ro pb po b g n (del S p) (upV V p 0) := by
  have h1 := H.c1
  have C2 := Lib.hid (drop_in b g n p S w H.set hp hS)
  have HH := Lib.hid H
  have hn := H.hn
  clear H
  go_enter Tryd.func42, Tryd.ntmps42
  go_wp2_with fail
  refine C2.out.mono ?_
  rintro e w1 ⟨rfl, k1, hs1⟩
  have H1 := HH.out.setS k1 hs1
  have T1 : Hid (Touch g pb po n w w1) := Lib.hid (Touch.of_grown k1 HH.out.l.2 HH.out.d.2.2.2.2)
  have T2 : Hid (Touch g pb po n w1 (w1.setCell ⟨pb, po + p, none⟩ (.int .i64 0))) := Lib.hid (Touch.set w1 _ _ (by omega) (by omega))
  have h0 := H1.c0
  have hv := H1.cv p hp
  have hf := H1.fv p hp
  have H2 := Lib.hid (H1.setV p hp 0)
  clear k1 hs1 H1 HH C2 h1 hS
  go_wp2
  go_ret
  exact ⟨rfl, T1.out.trans T2.out, H2.out⟩
theorem give_no (k : Int) (H : RegMem w rb ro pb po b g n S V) (hv : k < 0 ∨ (n : Int) ≤ k ∨ S k.toNat = false) :
    Calls Tryd.prog 42 #[.pointer (some ⟨rb, ro, none⟩), .int .i64 k] w fun e w' => e = .returned (.bool false) ∧ w.grownBy w' none := by
  have h1 := H.c1
  have C2 := Lib.hid (drop_none b g n k S w H.set hv)
  clear H hv
  go_enter Tryd.func42, Tryd.ntmps42
  go_wp2_with fail
  refine C2.out.mono ?_
  rintro e w1 ⟨rfl, k1⟩
  go_wp2
  go_ret
  exact ⟨rfl, k1⟩

set_option maxHeartbeats 1000000 in
theorem at_in (p : Nat) (H : RegMem w rb ro pb po b g n S V) (hp : p < n) (hS : S p = true) :
    Calls Tryd.prog 41 #[.pointer (some ⟨rb, ro, none⟩), .int .i64 p] w fun e w' => e = .returned (.tuple #[.int .i64 (V p), .bool true]) ∧ w.grownBy w' none := by
  have h1 := H.c1
  have C2 := Lib.hid (has_g b g n p S w H.set true (Or.inl ⟨by omega, by omega, by simpa using hS⟩))
  have HH := Lib.hid H
  have hn := H.hn
  clear H hS
  go_enter Tryd.func41, Tryd.ntmps41
  go_wp2_with fail
  refine C2.out.mono ?_
  rintro e w1 ⟨rfl, k1⟩
  have H1 := HH.out.kept k1
  have h0 := H1.c0
  have hv := H1.cv p hp
  clear H1 HH C2 h1
  go_wp2
  go_ret2
  exact ⟨rfl, k1⟩
theorem at_no (k : Int) (H : RegMem w rb ro pb po b g n S V) (hv : k < 0 ∨ (n : Int) ≤ k ∨ S k.toNat = false) :
    Calls Tryd.prog 41 #[.pointer (some ⟨rb, ro, none⟩), .int .i64 k] w fun e w' => e = .returned (.tuple #[.int .i64 0, .bool false]) ∧ w.grownBy w' none := by
  have h1 := H.c1
  have C2 := Lib.hid (has_g b g n k S w H.set false (by
    by_cases h : 0 ≤ k ∧ k < n
    · refine Or.inl ⟨h.1, h.2, ?_⟩
      rcases hv with h2 | h2 | h2
      · omega
      · omega
      · exact h2
    · exact Or.inr ⟨by omega, rfl⟩))
  clear H hv
  go_enter Tryd.func41, Tryd.ntmps41
  go_wp2_with fail
  refine C2.out.mono ?_
  rintro e w1 ⟨rfl, k1⟩
  go_wp2
  go_ret2
  exact ⟨rfl, k1⟩

set_option maxHeartbeats 1000000 in
theorem set_in (p : Nat) (v : Int) (H : RegMem w rb ro pb po b g n S V) (hp : p < n) (hS : S p = true) :
    Calls Tryd.prog 54 #[.pointer (some ⟨rb, ro, none⟩), .int .i64 p, .int .i64 v] w fun e w' => e = .returned (.bool true) ∧ Touch g pb po n w w' ∧ RegMem w' rb ro pb po b g n S (upV V p v) := by
  have h1 := H.c1
  have C2 := Lib.hid (has_g b g n p S w H.set true (Or.inl ⟨by omega, by omega, by simpa using hS⟩))
  have HH := Lib.hid H
  have hn := H.hn
  clear H hS
  go_enter Tryd.func54, Tryd.ntmps54
  go_wp2_with fail
  refine C2.out.mono ?_
  rintro e w1 ⟨rfl, k1⟩
  have H1 := HH.out.kept k1
  have T1 : Hid (Touch g pb po n w w1) := Lib.hid (Touch.of_none k1 HH.out.l.2)
  have T2 : Hid (Touch g pb po n w1 (w1.setCell ⟨pb, po + p, none⟩ (.int .i64 v))) := Lib.hid (Touch.set w1 _ _ (by omega) (by omega))
  have h0 := H1.c0
  have hv := H1.cv p hp
  have hf := H1.fv p hp
  have H2 := Lib.hid (H1.setV p hp v)
  clear k1 H1 HH C2 h1
  go_wp2
  go_ret
  exact ⟨rfl, T1.out.trans T2.out, H2.out⟩
theorem set_no (k v : Int) (H : RegMem w rb ro pb po b g n S V) (hv : k < 0 ∨ (n : Int) ≤ k ∨ S k.toNat = false) :
    Calls Tryd.prog 54 #[.pointer (some ⟨rb, ro, none⟩), .int .i64 k, .int .i64 v] w fun e w' => e = .returned (.bool false) ∧ w.grownBy w' none := by
  have h1 := H.c1
  have C2 := Lib.hid (has_g b g n k S w H.set false (by
    by_cases h : 0 ≤ k ∧ k < n
    · refine Or.inl ⟨h.1, h.2, ?_⟩
      rcases hv with h2 | h2 | h2
      · omega
      · omega
      · exact h2
    · exact Or.inr ⟨by omega, rfl⟩))
  clear H hv
  go_enter Tryd.func54, Tryd.ntmps54
  go_wp2_with fail
  refine C2.out.mono ?_
  rintro e w1 ⟨rfl, k1⟩
  go_wp2
  go_ret
  exact ⟨rfl, k1⟩
end
end Go.Proofs.YtchookgdajkipaaDoor.SI
