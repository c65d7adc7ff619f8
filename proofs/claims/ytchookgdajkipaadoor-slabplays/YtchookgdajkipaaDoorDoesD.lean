/-
  The statement's own 'does' of layer 3: a step in a region answers as the document's row of places does, and the two tell the same behind it.
-/
import Derived.Test.YtchookgdajkipaaDoorSameD
namespace Go.Proofs.YtchookgdajkipaaDoor
open Go.RowKit Go.Lib
set_option maxRecDepth 100000
set_option linter.unusedVariables false

theorem PlAt.touch {w w' : World} {r n g pb po n' : Nat} {S : Nat → Bool} {U : Nat → Int} (h : PlAt w r n S U) (k : Touch g pb po n' w w') (h1 : r ≠ g) (h2 : r ≠ pb) : PlAt w' r n S U :=
  ⟨Nat.lt_of_lt_of_le h.lt k.size, fun q hq => (k.far r _ h.lt h1 h2).trans (h.is q hq), fun q hq => (k.far r _ h.lt h1 h2).trans (h.val q hq)⟩

/-- What a step leaves: the region, and a row of places that tells the same. -/
def Did (rb ro pb po b g n r : Nat) (w : World) (e : Ending) (w' : World) : Prop :=
  ∃ r' cp' S' U' V', e = .returned (.tuple #[.slice (some ⟨r', 0, none⟩) n cp', .bool true]) ∧ Touch g pb po n w w' ∧ SI.RegMem w' rb ro pb po b g n S' V' ∧ PlAt w' r' n S' U' ∧ (∀ q, q < n → S' q = true → U' q = V' q) ∧ (r' = r ∨ w.heap.size ≤ r')

theorem updS_true (S : Nat → Bool) (k : Nat) : updS S k true = ins S k := by
  funext i; by_cases h : i = k <;> simp [updS, ins, h]
theorem updS_false (S : Nat → Bool) (k : Nat) : updS S k false = del S k := by
  funext i; by_cases h : i = k <;> simp [updS, del, h]

set_option maxHeartbeats 4000000 in
theorem does_take {w : World} {rb ro pb po b g n r cp : Nat} {S : Nat → Bool} {U V : Nat → Int} (rz kz vz : Int) (H : SI.RegMem w rb ro pb po b g n S V) (hT : TabAt w) (P : PlAt w r n S U) (hU : ∀ q, q < n → S q = true → U q = V q) (hn : n ≤ 256) (h1 : r ≠ g) (h2 : r ≠ pb)
    (p : Nat) (hp : p < n) (hS : S p = false) (hl : ∀ q, q < p → S q = true) (has : Bool) (hh : ∀ v : World, PlAt v r n S U → Calls Tryd.prog 51 #[.slice (some ⟨r, 0, none⟩) n cp, .int .i64 kz] v fun e w' => e = .returned (.bool has) ∧ v = w') :
    Calls Tryd.prog 15 #[.pointer (some ⟨rb, ro, none⟩), .slice (some ⟨r, 0, none⟩) n cp, .agg #[.int .i64 rz, .int .i64 0, .int .i64 kz, .int .i64 vz]] w (Did rb ro pb po b g n r w) := by
  have HH := Lib.hid H
  have HP := Lib.hid P
  have HT := Lib.hid hT
  have HHH := Lib.hid hh
  have HU := Lib.hid hU
  have HL := Lib.hid hl
  clear H P hT hh hU hl
  go_enter Tryd.func15, Tryd.ntmps15
  have k0 := World.grownBy_alloc w (.cells #[.int .i64 rz, .int .i64 0, .int .i64 kz, .int .i64 vz] 33) none
  have b3 : (w.alloc (.cells #[.int .i64 rz, .int .i64 0, .int .i64 kz, .int .i64 vz] 33)).cell? ⟨w.heap.size, 3, none⟩ = some (.int .i64 vz) := by simp
  have C1 := Lib.hid (HHH.out _ (HP.out.kept k0))
  have C2 := Lib.hid (SI.take_some p vz (HH.out.kept k0) (HT.out.kept k0) hp hS HL.out)
  have hsz0 : (w.alloc (.cells #[.int .i64 rz, .int .i64 0, .int .i64 kz, .int .i64 vz] 33)).heap.size = w.heap.size + 1 := by simp
  have T0 := Touch.of_none (g := g) (pb := pb) (po := po) (n := n) k0 HH.out.l.2
  have hg1 : g < w.heap.size := HH.out.set.hg
  have hg2 : pb < w.heap.size := HH.out.l.2
  have P0 := HP.out.kept k0
  go_wp2_with fail
  refine C1.out.mono ?_
  rintro e w' ⟨rfl, rfl⟩
  go_wp2_with fail
  refine C2.out.mono ?_
  rintro e w1 ⟨rfl, T1, R1⟩
  have b31 := (T1.far w.heap.size 3 (by omega) (by omega) (by omega)).trans b3
  have P1 := P0.touch T1 h1 h2
  have C3 : Hid (Calls Tryd.prog 52 #[.slice (some ⟨r, 0, none⟩) n cp] w1 _) := Lib.hid (pfree (cp := cp) P1 hn p true (Or.inl ⟨rfl, hp, hS, HL.out⟩))
  have hs1 := T1.size
  clear C1 C2 b3
  go_wp2_with fail
  refine C3.out.mono ?_
  rintro e w' ⟨rfl, rfl⟩
  have C4 : Hid (Calls Tryd.prog 53 #[.slice (some ⟨r, 0, none⟩) n cp, .int .i64 p, .agg #[.bool true, .int .i64 vz]] w1 _) := Lib.hid (pwith (cp := cp) true vz P1 hn hp)
  clear C3
  go_wp2_with fail
  refine C4.out.mono ?_
  rintro e w2 ⟨r', cp', rfl, hr', k2, P2⟩
  go_wp2
  go_ret2
  rw [updS_true] at P2
  refine ⟨r', cp', ins S p, updV U p vz, upV V p vz, rfl, (T0.trans T1).trans (Touch.of_none k2 (by omega)), R1.kept k2, P2, fun q hq hSq => ?_, Or.inr (by omega)⟩
  by_cases e : q = p
  · subst e; rw [upV_same]; simp [updV]
  · rw [upV_other _ _ _ _ e]; simp only [updV, if_neg e]
    exact HU.out q hq (by simpa [ins, e] using hSq)

set_option maxHeartbeats 4000000 in
theorem does_full {w : World} {rb ro pb po b g n r cp : Nat} {S : Nat → Bool} {U V : Nat → Int} (rz kz vz : Int) (H : SI.RegMem w rb ro pb po b g n S V) (hT : TabAt w) (P : PlAt w r n S U) (hU : ∀ q, q < n → S q = true → U q = V q) (hn : n ≤ 256) (h1 : r ≠ g) (h2 : r ≠ pb)
    (hl : ∀ q, q < n → S q = true) (has : Bool) (hh : ∀ v : World, PlAt v r n S U → Calls Tryd.prog 51 #[.slice (some ⟨r, 0, none⟩) n cp, .int .i64 kz] v fun e w' => e = .returned (.bool has) ∧ v = w') :
    Calls Tryd.prog 15 #[.pointer (some ⟨rb, ro, none⟩), .slice (some ⟨r, 0, none⟩) n cp, .agg #[.int .i64 rz, .int .i64 0, .int .i64 kz, .int .i64 vz]] w (Did rb ro pb po b g n r w) := by
  have HH := Lib.hid H
  have HP := Lib.hid P
  have HT := Lib.hid hT
  have HHH := Lib.hid hh
  have HU := Lib.hid hU
  clear H P hT hh hU
  go_enter Tryd.func15, Tryd.ntmps15
  have k0 := World.grownBy_alloc w (.cells #[.int .i64 rz, .int .i64 0, .int .i64 kz, .int .i64 vz] 33) none
  have b3 : (w.alloc (.cells #[.int .i64 rz, .int .i64 0, .int .i64 kz, .int .i64 vz] 33)).cell? ⟨w.heap.size, 3, none⟩ = some (.int .i64 vz) := by simp
  have b2 : (w.alloc (.cells #[.int .i64 rz, .int .i64 0, .int .i64 kz, .int .i64 vz] 33)).cell? ⟨w.heap.size, 2, none⟩ = some (.int .i64 kz) := by simp
  have C1 := Lib.hid (HHH.out _ (HP.out.kept k0))
  have hsz0 : (w.alloc (.cells #[.int .i64 rz, .int .i64 0, .int .i64 kz, .int .i64 vz] 33)).heap.size = w.heap.size + 1 := by simp
  have T0 := Touch.of_none (g := g) (pb := pb) (po := po) (n := n) k0 HH.out.l.2
  have hg1 : g < w.heap.size := HH.out.set.hg
  have hg2 : pb < w.heap.size := HH.out.l.2
  have P0 := HP.out.kept k0
  have R0 := HH.out.kept k0
  have TT0 := HT.out.kept k0
  have C2 := Lib.hid (SI.take_none vz R0 TT0 hl)
  have C3 := Lib.hid (pfree (cp := cp) P0 hn 0 false (Or.inr ⟨rfl, rfl, hl⟩))
  have HL := Lib.hid hl
  clear hl
  go_wp2_with fail
  refine C1.out.mono ?_
  rintro e w' ⟨rfl, rfl⟩
  clear C1
  go_wp2_with fail
  refine C2.out.mono ?_
  rintro e w' ⟨rfl, rfl⟩
  go_wp2_with fail
  refine C3.out.mono ?_
  rintro e w' ⟨rfl, rfl⟩
  go_wp2
  go_ret2
  exact ⟨r, cp, S, U, V, rfl, T0, R0, P0, HU.out, Or.inl rfl⟩

set_option maxHeartbeats 4000000 in
theorem does_give {w : World} {rb ro pb po b g n r cp : Nat} {S : Nat → Bool} {U V : Nat → Int} (rz vz : Int) {k : Nat} (H : SI.RegMem w rb ro pb po b g n S V) (hT : TabAt w) (P : PlAt w r n S U) (hU : ∀ q, q < n → S q = true → U q = V q) (hn : n ≤ 256) (h1 : r ≠ g) (h2 : r ≠ pb)
    (ha : k < n) (hS : S k = true) (hh : ∀ v : World, PlAt v r n S U → Calls Tryd.prog 51 #[.slice (some ⟨r, 0, none⟩) n cp, .int .i64 (k : Nat)] v fun e w' => e = .returned (.bool true) ∧ v = w') :
    Calls Tryd.prog 15 #[.pointer (some ⟨rb, ro, none⟩), .slice (some ⟨r, 0, none⟩) n cp, .agg #[.int .i64 rz, .int .i64 1, .int .i64 (k : Nat), .int .i64 vz]] w (Did rb ro pb po b g n r w) := by
  have HH := Lib.hid H
  have HP := Lib.hid P
  have HT := Lib.hid hT
  have HHH := Lib.hid hh
  have HU := Lib.hid hU
  clear H P hT hh hU
  go_enter Tryd.func15, Tryd.ntmps15
  have k0 := World.grownBy_alloc w (.cells #[.int .i64 rz, .int .i64 1, .int .i64 (k : Nat), .int .i64 vz] 33) none
  have b3 : (w.alloc (.cells #[.int .i64 rz, .int .i64 1, .int .i64 (k : Nat), .int .i64 vz] 33)).cell? ⟨w.heap.size, 3, none⟩ = some (.int .i64 vz) := by simp
  have b2 : (w.alloc (.cells #[.int .i64 rz, .int .i64 1, .int .i64 (k : Nat), .int .i64 vz] 33)).cell? ⟨w.heap.size, 2, none⟩ = some (.int .i64 (k : Nat)) := by simp
  have C1 := Lib.hid (HHH.out _ (HP.out.kept k0))
  have hsz0 : (w.alloc (.cells #[.int .i64 rz, .int .i64 1, .int .i64 (k : Nat), .int .i64 vz] 33)).heap.size = w.heap.size + 1 := by simp
  have T0 := Touch.of_none (g := g) (pb := pb) (po := po) (n := n) k0 HH.out.l.2
  have hg1 : g < w.heap.size := HH.out.set.hg
  have hg2 : pb < w.heap.size := HH.out.l.2
  have P0 := HP.out.kept k0
  have R0 := HH.out.kept k0
  have TT0 := HT.out.kept k0
  have C2 := Lib.hid (SI.give_in k R0 ha hS)
  go_wp2_with fail
  refine C1.out.mono ?_
  rintro e w' ⟨rfl, rfl⟩
  clear C1
  go_wp2_with fail
  refine C2.out.mono ?_
  rintro e w1 ⟨rfl, T1, R1⟩
  have b31 := (T1.far w.heap.size 3 (by omega) (by omega) (by omega)).trans b3
  have b21 := (T1.far w.heap.size 2 (by omega) (by omega) (by omega)).trans b2
  have P1 := P0.touch T1 h1 h2
  have hs1 := T1.size
  have C4 := Lib.hid (pwith (cp := cp) false 0 P1 hn ha)
  clear C2 b3 b2
  go_wp2_with fail
  refine C4.out.mono ?_
  rintro e w2 ⟨r', cp', rfl, hr', k2, P2⟩
  go_wp2
  go_ret2
  rw [updS_false] at P2
  refine ⟨r', cp', del S k, updV U k 0, upV V k 0, rfl, (T0.trans T1).trans (Touch.of_none k2 (by omega)), R1.kept k2, P2, fun q hq hSq => ?_, Or.inr (by omega)⟩
  by_cases e : q = k
  · subst e; rw [upV_same]; simp [updV]
  · rw [upV_other _ _ _ _ e]; simp only [updV, if_neg e]
    exact HU.out q hq (by simpa [del, e] using hSq)

set_option maxHeartbeats 4000000 in
theorem does_set {w : World} {rb ro pb po b g n r cp : Nat} {S : Nat → Bool} {U V : Nat → Int} (rz vz : Int) {k : Nat} (H : SI.RegMem w rb ro pb po b g n S V) (hT : TabAt w) (P : PlAt w r n S U) (hU : ∀ q, q < n → S q = true → U q = V q) (hn : n ≤ 256) (h1 : r ≠ g) (h2 : r ≠ pb)
    (ha : k < n) (hS : S k = true) (hh : ∀ v : World, PlAt v r n S U → Calls Tryd.prog 51 #[.slice (some ⟨r, 0, none⟩) n cp, .int .i64 (k : Nat)] v fun e w' => e = .returned (.bool true) ∧ v = w') :
    Calls Tryd.prog 15 #[.pointer (some ⟨rb, ro, none⟩), .slice (some ⟨r, 0, none⟩) n cp, .agg #[.int .i64 rz, .int .i64 2, .int .i64 (k : Nat), .int .i64 vz]] w (Did rb ro pb po b g n r w) := by
  have HH := Lib.hid H
  have HP := Lib.hid P
  have HT := Lib.hid hT
  have HHH := Lib.hid hh
  have HU := Lib.hid hU
  clear H P hT hh hU
  go_enter Tryd.func15, Tryd.ntmps15
  have k0 := World.grownBy_alloc w (.cells #[.int .i64 rz, .int .i64 2, .int .i64 (k : Nat), .int .i64 vz] 33) none
  have b3 : (w.alloc (.cells #[.int .i64 rz, .int .i64 2, .int .i64 (k : Nat), .int .i64 vz] 33)).cell? ⟨w.heap.size, 3, none⟩ = some (.int .i64 vz) := by simp
  have b2 : (w.alloc (.cells #[.int .i64 rz, .int .i64 2, .int .i64 (k : Nat), .int .i64 vz] 33)).cell? ⟨w.heap.size, 2, none⟩ = some (.int .i64 (k : Nat)) := by simp
  have C1 := Lib.hid (HHH.out _ (HP.out.kept k0))
  have hsz0 : (w.alloc (.cells #[.int .i64 rz, .int .i64 2, .int .i64 (k : Nat), .int .i64 vz] 33)).heap.size = w.heap.size + 1 := by simp
  have T0 := Touch.of_none (g := g) (pb := pb) (po := po) (n := n) k0 HH.out.l.2
  have hg1 : g < w.heap.size := HH.out.set.hg
  have hg2 : pb < w.heap.size := HH.out.l.2
  have P0 := HP.out.kept k0
  have R0 := HH.out.kept k0
  have TT0 := HT.out.kept k0
  have C2 := Lib.hid (SI.set_in k vz R0 ha hS)
  go_wp2_with fail
  refine C1.out.mono ?_
  rintro e w' ⟨rfl, rfl⟩
  clear C1
  go_wp2_with fail
  refine C2.out.mono ?_
  rintro e w1 ⟨rfl, T1, R1⟩
  have b31 := (T1.far w.heap.size 3 (by omega) (by omega) (by omega)).trans b3
  have b21 := (T1.far w.heap.size 2 (by omega) (by omega) (by omega)).trans b2
  have P1 := P0.touch T1 h1 h2
  have hs1 := T1.size
  have C4 := Lib.hid (pwith (cp := cp) true vz P1 hn ha)
  clear C2 b3 b2
  go_wp2_with fail
  refine C4.out.mono ?_
  rintro e w2 ⟨r', cp', rfl, hr', k2, P2⟩
  go_wp2
  go_ret2
  have eS : updS S k true = S := by
    funext i; by_cases h : i = k
    · subst h; simp [updS, hS]
    · simp [updS, h]
  rw [eS] at P2
  refine ⟨r', cp', S, updV U k vz, upV V k vz, rfl, (T0.trans T1).trans (Touch.of_none k2 (by omega)), R1.kept k2, P2, fun q hq hSq => ?_, Or.inr (by omega)⟩
  by_cases e : q = k
  · subst e; rw [upV_same]; simp [updV]
  · rw [upV_other _ _ _ _ e]; simp only [updV, if_neg e]
    exact HU.out q hq hSq

set_option maxHeartbeats 4000000 in
theorem does_give_no {w : World} {rb ro pb po b g n r cp : Nat} {S : Nat → Bool} {U V : Nat → Int} (rz kz vz : Int) (H : SI.RegMem w rb ro pb po b g n S V) (hT : TabAt w) (P : PlAt w r n S U) (hU : ∀ q, q < n → S q = true → U q = V q) (hn : n ≤ 256) (h1 : r ≠ g) (h2 : r ≠ pb)
    (hk : kz < 0 ∨ (n : Int) ≤ kz ∨ S kz.toNat = false) (hh : ∀ v : World, PlAt v r n S U → Calls Tryd.prog 51 #[.slice (some ⟨r, 0, none⟩) n cp, .int .i64 kz] v fun e w' => e = .returned (.bool false) ∧ v = w') :
    Calls Tryd.prog 15 #[.pointer (some ⟨rb, ro, none⟩), .slice (some ⟨r, 0, none⟩) n cp, .agg #[.int .i64 rz, .int .i64 1, .int .i64 kz, .int .i64 vz]] w (Did rb ro pb po b g n r w) := by
  have HH := Lib.hid H
  have HP := Lib.hid P
  have HT := Lib.hid hT
  have HHH := Lib.hid hh
  have HU := Lib.hid hU
  clear H P hT hh hU
  go_enter Tryd.func15, Tryd.ntmps15
  have k0 := World.grownBy_alloc w (.cells #[.int .i64 rz, .int .i64 1, .int .i64 kz, .int .i64 vz] 33) none
  have b3 : (w.alloc (.cells #[.int .i64 rz, .int .i64 1, .int .i64 kz, .int .i64 vz] 33)).cell? ⟨w.heap.size, 3, none⟩ = some (.int .i64 vz) := by simp
  have b2 : (w.alloc (.cells #[.int .i64 rz, .int .i64 1, .int .i64 kz, .int .i64 vz] 33)).cell? ⟨w.heap.size, 2, none⟩ = some (.int .i64 kz) := by simp
  have C1 := Lib.hid (HHH.out _ (HP.out.kept k0))
  have hsz0 : (w.alloc (.cells #[.int .i64 rz, .int .i64 1, .int .i64 kz, .int .i64 vz] 33)).heap.size = w.heap.size + 1 := by simp
  have T0 := Touch.of_none (g := g) (pb := pb) (po := po) (n := n) k0 HH.out.l.2
  have hg1 : g < w.heap.size := HH.out.set.hg
  have hg2 : pb < w.heap.size := HH.out.l.2
  have P0 := HP.out.kept k0
  have R0 := HH.out.kept k0
  have TT0 := HT.out.kept k0
  have C2 := Lib.hid (SI.give_no kz R0 hk)
  clear hk
  go_wp2_with fail
  refine C1.out.mono ?_
  rintro e w' ⟨rfl, rfl⟩
  clear C1
  go_wp2_with fail
  refine C2.out.mono ?_
  rintro e w1 ⟨rfl, k1⟩
  go_wp2
  go_ret2
  exact ⟨r, cp, S, U, V, rfl, T0.trans (Touch.of_none k1 (by omega)), R0.kept k1, P0.kept k1, HU.out, Or.inl rfl⟩

set_option maxHeartbeats 4000000 in
theorem does_set_no {w : World} {rb ro pb po b g n r cp : Nat} {S : Nat → Bool} {U V : Nat → Int} (rz kz vz : Int) (H : SI.RegMem w rb ro pb po b g n S V) (hT : TabAt w) (P : PlAt w r n S U) (hU : ∀ q, q < n → S q = true → U q = V q) (hn : n ≤ 256) (h1 : r ≠ g) (h2 : r ≠ pb)
    (hk : kz < 0 ∨ (n : Int) ≤ kz ∨ S kz.toNat = false) (hh : ∀ v : World, PlAt v r n S U → Calls Tryd.prog 51 #[.slice (some ⟨r, 0, none⟩) n cp, .int .i64 kz] v fun e w' => e = .returned (.bool false) ∧ v = w') :
    Calls Tryd.prog 15 #[.pointer (some ⟨rb, ro, none⟩), .slice (some ⟨r, 0, none⟩) n cp, .agg #[.int .i64 rz, .int .i64 2, .int .i64 kz, .int .i64 vz]] w (Did rb ro pb po b g n r w) := by
  have HH := Lib.hid H
  have HP := Lib.hid P
  have HT := Lib.hid hT
  have HHH := Lib.hid hh
  have HU := Lib.hid hU
  clear H P hT hh hU
  go_enter Tryd.func15, Tryd.ntmps15
  have k0 := World.grownBy_alloc w (.cells #[.int .i64 rz, .int .i64 2, .int .i64 kz, .int .i64 vz] 33) none
  have b3 : (w.alloc (.cells #[.int .i64 rz, .int .i64 2, .int .i64 kz, .int .i64 vz] 33)).cell? ⟨w.heap.size, 3, none⟩ = some (.int .i64 vz) := by simp
  have b2 : (w.alloc (.cells #[.int .i64 rz, .int .i64 2, .int .i64 kz, .int .i64 vz] 33)).cell? ⟨w.heap.size, 2, none⟩ = some (.int .i64 kz) := by simp
  have C1 := Lib.hid (HHH.out _ (HP.out.kept k0))
  have hsz0 : (w.alloc (.cells #[.int .i64 rz, .int .i64 2, .int .i64 kz, .int .i64 vz] 33)).heap.size = w.heap.size + 1 := by simp
  have T0 := Touch.of_none (g := g) (pb := pb) (po := po) (n := n) k0 HH.out.l.2
  have hg1 : g < w.heap.size := HH.out.set.hg
  have hg2 : pb < w.heap.size := HH.out.l.2
  have P0 := HP.out.kept k0
  have R0 := HH.out.kept k0
  have TT0 := HT.out.kept k0
  have C2 := Lib.hid (SI.set_no kz vz R0 hk)
  clear hk
  go_wp2_with fail
  refine C1.out.mono ?_
  rintro e w' ⟨rfl, rfl⟩
  clear C1
  go_wp2_with fail
  refine C2.out.mono ?_
  rintro e w1 ⟨rfl, k1⟩
  go_wp2
  go_ret2
  exact ⟨r, cp, S, U, V, rfl, T0.trans (Touch.of_none k1 (by omega)), R0.kept k1, P0.kept k1, HU.out, Or.inl rfl⟩

set_option maxHeartbeats 4000000 in
theorem does_else {w : World} {rb ro pb po b g n r cp : Nat} {S : Nat → Bool} {U V : Nat → Int} (rz kind kz vz : Int) (H : SI.RegMem w rb ro pb po b g n S V) (hT : TabAt w) (P : PlAt w r n S U) (hU : ∀ q, q < n → S q = true → U q = V q) (hn : n ≤ 256) (h1 : r ≠ g) (h2 : r ≠ pb)
    (e0 : (kind == 0) = false) (e1 : (kind == 1) = false) (e2 : (kind == 2) = false) (has : Bool) (hh : ∀ v : World, PlAt v r n S U → Calls Tryd.prog 51 #[.slice (some ⟨r, 0, none⟩) n cp, .int .i64 kz] v fun e w' => e = .returned (.bool has) ∧ v = w') :
    Calls Tryd.prog 15 #[.pointer (some ⟨rb, ro, none⟩), .slice (some ⟨r, 0, none⟩) n cp, .agg #[.int .i64 rz, .int .i64 kind, .int .i64 kz, .int .i64 vz]] w (Did rb ro pb po b g n r w) := by
  have HH := Lib.hid H
  have HP := Lib.hid P
  have HT := Lib.hid hT
  have HHH := Lib.hid hh
  have HU := Lib.hid hU
  clear H P hT hh hU
  go_enter Tryd.func15, Tryd.ntmps15
  have k0 := World.grownBy_alloc w (.cells #[.int .i64 rz, .int .i64 kind, .int .i64 kz, .int .i64 vz] 33) none
  have b3 : (w.alloc (.cells #[.int .i64 rz, .int .i64 kind, .int .i64 kz, .int .i64 vz] 33)).cell? ⟨w.heap.size, 3, none⟩ = some (.int .i64 vz) := by simp
  have b2 : (w.alloc (.cells #[.int .i64 rz, .int .i64 kind, .int .i64 kz, .int .i64 vz] 33)).cell? ⟨w.heap.size, 2, none⟩ = some (.int .i64 kz) := by simp
  have C1 := Lib.hid (HHH.out _ (HP.out.kept k0))
  have hsz0 : (w.alloc (.cells #[.int .i64 rz, .int .i64 kind, .int .i64 kz, .int .i64 vz] 33)).heap.size = w.heap.size + 1 := by simp
  have T0 := Touch.of_none (g := g) (pb := pb) (po := po) (n := n) k0 HH.out.l.2
  have hg1 : g < w.heap.size := HH.out.set.hg
  have hg2 : pb < w.heap.size := HH.out.l.2
  have P0 := HP.out.kept k0
  have R0 := HH.out.kept k0
  have TT0 := HT.out.kept k0
  go_wp2_with fail
  refine C1.out.mono ?_
  rintro e w' ⟨rfl, rfl⟩
  clear C1
  go_wp2
  go_ret2
  exact ⟨r, cp, S, U, V, rfl, T0, R0, P0, HU.out, Or.inl rfl⟩

theorem has_or (n : Nat) (S : Nat → Bool) (kz : Int) : (∃ k : Nat, kz = (k : Int) ∧ k < n ∧ S k = true) ∨ (kz < 0 ∨ (n : Int) ≤ kz ∨ S kz.toNat = false) := by
  by_cases h : kz < 0 ∨ (n : Int) ≤ kz ∨ S kz.toNat = false
  · exact Or.inr h
  · obtain ⟨k, rfl⟩ := Int.eq_ofNat_of_zero_le (show 0 ≤ kz by omega)
    refine Or.inl ⟨k, rfl, by omega, ?_⟩
    cases e : S k
    · exact absurd (Or.inr (Or.inr (by simpa using e))) h
    · rfl

theorem psame {w : World} {rb ro pb po b g n r cp : Nat} {S : Nat → Bool} {U V : Nat → Int} (ask : Int) (H : SI.RegMem w rb ro pb po b g n S V) (hT : TabAt w) (P : PlAt w r n S U) (hn : n ≤ 256) (hU : ∀ q, q < n → S q = true → U q = V q) :
    Calls Tryd.prog 16 #[.pointer (some ⟨rb, ro, none⟩), .slice (some ⟨r, 0, none⟩) n cp, .int .i64 ask] w fun e w' => e = .returned (.bool true) ∧ w.grownBy w' none := by
  rcases has_or n S ask with ⟨k, rfl, hk, hS⟩ | h
  · exact psame_has H hT P hn hk hS (hU k hk hS)
  · exact psame_no H hT P hn h

theorem does_any {w : World} {rb ro pb po b g n r cp : Nat} {S : Nat → Bool} {U V : Nat → Int} (rz kind kz vz : Int) (H : SI.RegMem w rb ro pb po b g n S V) (hT : TabAt w) (P : PlAt w r n S U) (hU : ∀ q, q < n → S q = true → U q = V q) (hn : n ≤ 256) (h1 : r ≠ g) (h2 : r ≠ pb) :
    Calls Tryd.prog 15 #[.pointer (some ⟨rb, ro, none⟩), .slice (some ⟨r, 0, none⟩) n cp, .agg #[.int .i64 rz, .int .i64 kind, .int .i64 kz, .int .i64 vz]] w (Did rb ro pb po b g n r w) := by
  obtain ⟨has, hh⟩ : ∃ has : Bool, ∀ v : World, PlAt v r n S U → Calls Tryd.prog 51 #[.slice (some ⟨r, 0, none⟩) n cp, .int .i64 kz] v fun e w' => e = .returned (.bool has) ∧ v = w' := by
    rcases has_or n S kz with ⟨k, rfl, hk, hS⟩ | h
    · exact ⟨true, fun v hv => hS ▸ phas_in (cp := cp) hv hk⟩
    · exact ⟨false, fun v hv => phas_not (cp := cp) hv h⟩
  by_cases k0 : kind = 0
  · subst k0
    rcases full_or S n with ⟨p, hp, hS, hl⟩ | hl
    · exact does_take rz kz vz H hT P hU hn h1 h2 p hp hS hl has hh
    · exact does_full rz kz vz H hT P hU hn h1 h2 hl has hh
  by_cases k1 : kind = 1
  · subst k1
    rcases has_or n S kz with ⟨k, rfl, hk, hS⟩ | h
    · exact does_give rz vz H hT P hU hn h1 h2 hk hS (fun v hv => hS ▸ phas_in (cp := cp) hv hk)
    · exact does_give_no rz kz vz H hT P hU hn h1 h2 h (fun v hv => phas_not (cp := cp) hv h)
  by_cases k2 : kind = 2
  · subst k2
    rcases has_or n S kz with ⟨k, rfl, hk, hS⟩ | h
    · exact does_set rz vz H hT P hU hn h1 h2 hk hS (fun v hv => hS ▸ phas_in (cp := cp) hv hk)
    · exact does_set_no rz kz vz H hT P hU hn h1 h2 h (fun v hv => phas_not (cp := cp) hv h)
  exact does_else rz kind kz vz H hT P hU hn h1 h2 (by rw [beq_eq_false_iff_ne]; exact k0) (by rw [beq_eq_false_iff_ne]; exact k1) (by rw [beq_eq_false_iff_ne]; exact k2) has hh

end Go.Proofs.YtchookgdajkipaaDoor
