/-
  CallNames, the walk, over this seat's translation.
-/
import Derived.Test.YtcnojgkolpdomaaDoorAlive14
import Derived.Laws.RangeAny
import Derived.Laws.RangeString
import Derived.Deep.RegionHeld3
namespace Go.Proofs.YtcnojgkolpdomaaDoor
open Go.RowKit Go.Lib
set_option maxRecDepth 100000
set_option linter.unusedVariables false

theorem cof_any (other : Int) : ∃ (nm : Array UInt8) (x y z : Int) (is : Bool), (∀ w : World, FormsAt w → Calls Tryd.prog 14 #[.int .i64 other] w fun e w' => e = .returned (.tuple #[.agg #[.string ⟨nm⟩, .int .i64 x, .int .i64 y, .int .i64 z], .bool is]) ∧ w.grownBy w' none) ∧ (is = true → ∃ j : Nat, other = (j : Int) ∧ j < 13 ∧ nm = fNm j) := by
  by_cases h : other < 0 ∨ 13 ≤ other
  · exact ⟨#[], 0, 0, 0, false, fun w _ => cof_no other h, fun e => by cases e⟩
  · obtain ⟨j, rfl⟩ : ∃ j : Nat, other = (j : Int) := ⟨other.toNat, by omega⟩
    exact ⟨fNm j, nArgs j, fKd j, fRt j, true, fun w HT => cof_in j (by omega) HT, fun _ => ⟨j, rfl, by omega, rfl⟩⟩
theorem nm_low : ∀ k, k < 13 → ∀ (i : Nat) (h : i < (⟨fNm k⟩ : ByteArray).size), 97 ≤ ((⟨fNm k⟩ : ByteArray)[i]'h).toNat ∧ ((⟨fNm k⟩ : ByteArray)[i]'h).toNat ≤ 122 := by
  have h : ((List.range 13).all fun k => (fNm k).all fun b => decide (97 ≤ b.toNat) && decide (b.toNat ≤ 122)) = true := by decide +kernel
  intro k hk i hi
  have h1 := List.all_eq_true.1 h k (List.mem_range.2 hk)
  have h2 := (Array.all_eq_true.1 h1) i hi
  simp only [Bool.and_eq_true, decide_eq_true_eq] at h2
  exact h2
theorem nm_some : ∀ k, k < 13 → 0 < (⟨fNm k⟩ : ByteArray).size := by
  intro k hk
  have h : ((List.range 13).all fun k => decide (0 < (fNm k).size)) = true := by decide +kernel
  have h1 := List.all_eq_true.1 h k (List.mem_range.2 hk)
  have h2 : 0 < (fNm k).size := by simpa using h1
  exact h2
theorem nm_named : ∀ k, k < 13 → namedV ⟨fNm k⟩ = .tuple #[.int .i64 (k : Int), .bool true] := by
  intro k hk
  have h : ((List.range 13).all fun k => decide (namedN ⟨fNm k⟩ 13 = some k)) = true := by decide +kernel
  have h1 := List.all_eq_true.1 h k (List.mem_range.2 hk)
  exact namedV_eq (s := ⟨fNm k⟩) (x := some k) (by simpa using h1)
theorem nm_apart : ∀ i, i < 13 → ∀ j, j < 13 → i ≠ j → ((⟨fNm i⟩ : ByteArray).toList == (⟨fNm j⟩ : ByteArray).toList) = false := by
  have h : ((List.range 13).all fun i => (List.range 13).all fun j => decide (i = j) || !((⟨fNm i⟩ : ByteArray).toList == (⟨fNm j⟩ : ByteArray).toList)) = true := by decide +kernel
  intro i hi j hj hne
  have h1 := List.all_eq_true.1 h i (List.mem_range.2 hi)
  have h2 := List.all_eq_true.1 h1 j (List.mem_range.2 hj)
  simpa [hne] using h2
theorem f_rights : ∀ k, k < 13 → (fKd k = 0 ∨ (0 < fKd k ∧ 0 < nArgs k ∧ 0 < fRt k)) ∧ fRt k ≤ 15 := by
  intro k hk
  have h : ((List.range 13).all fun k => (decide (fKd k = 0) || (decide (0 < fKd k) && decide (0 < nArgs k) && decide (0 < fRt k))) && decide (fRt k ≤ 15)) = true := by decide
  have h1 := List.all_eq_true.1 h k (List.mem_range.2 hk)
  simpa [and_assoc] using h1
theorem andnot15 : ∀ r, r ≤ 15 → bits .andNot .i64 ((r : Nat) : Int) 15 = 0 := by
  intro r hr
  have h : ((List.range 16).all fun r => decide (bits .andNot .i64 ((r : Nat) : Int) 15 = 0)) = true := by decide +kernel
  have h1 := List.all_eq_true.1 h r (List.mem_range.2 (by omega))
  simpa using h1
theorem iter_alloc (w : World) (s : ByteArray) (p : Nat) : w.iter s p = w.alloc (.stringIter s p) := rfl

/-- The law's row of three numbers, of which those from the na-th to the i-th have been set to nothing. -/
structure ThreeAt (w wr : World) (B : Nat) (g : Nat → Nat) (na i : Nat) : Prop where
  g' : w.grownBy wr none
  sz : B < wr.heap.size
  bw : w.heap.size ≤ B
  a : ∀ j, j < 3 → wr.cell? ⟨B, j, none⟩ = some (.int .u64 ((if na ≤ j ∧ j < i then 0 else g j : Nat) : Int))
  af : ∀ j, wr.frozen? ⟨B, j, none⟩ = false
theorem ThreeAt.set {w wr : World} {B : Nat} {g : Nat → Nat} {na i : Nat} (H : ThreeAt w wr B g na i) (hi : i < 3) (hn : na ≤ i) : ThreeAt w (wr.setCell ⟨B, i, none⟩ (.int .u64 0)) B g na (i + 1) := by
  have hsz := H.sz
  have hbw := H.bw
  have ko := Only.set (lo := B) (hi := B + 1) wr ⟨B, i, none⟩ (.int .u64 0) (Nat.le_refl _) (by simp)
  refine ⟨ko.on H.g' hbw, Nat.lt_of_lt_of_le hsz ko.size, hbw, fun j hj => ?_, fun j => (World.frozen?_setCell ..).trans (H.af j)⟩
  by_cases e : j = i
  · subst e
    rw [World.cell?_setCell_same _ _ _ (H.a j hj), if_pos ⟨hn, by omega⟩]
    rfl
  · rw [World.cell?_setCell_other _ _ _ _ (by intro h'; injection h' with _ h'; exact e h'.symm), H.a j hj]
    by_cases hlt : na ≤ j ∧ j < i
    · rw [if_pos hlt, if_pos ⟨hlt.1, by omega⟩]
    · rw [if_neg hlt, if_neg (by omega)]

set_option maxHeartbeats 8000000 in
theorem names_law (op other : Int) (a b c : Nat) (w : World) (HT : FormsAt w) (ha : a < 18446744073709551616) (hb : b < 18446744073709551616) (hc : c < 18446744073709551616) :
    Calls Tryd.prog 6 #[.int .i64 op, .int .i64 other, .int .u64 (a : Nat), .int .u64 (b : Nat), .int .u64 (c : Nat)] w fun e w' => e = .returned (.bool true) ∧ w.grownBy w' none := by
  have G0 := Lib.hid (World.grownBy.refl w none)
  have HT0 := Lib.hid HT
  obtain ⟨nm2, x2, y2, z2, is, CO, hCO⟩ := cof_any other
  have CO2 := Lib.hid CO
  have HCO := Lib.hid hCO
  clear HT CO hCO
  by_cases hop : op < 0 ∨ 13 ≤ op
  · skip
    have AL := Lib.hid (alive14 (HT0.out.kept G0.out))
    have C1 := fun w0 => cof_no (w := w0) op hop
    unfold fZero at C1
    have C1 := Lib.hid C1
    have CR := Lib.hid (fun (wz : World) (h : w.grownBy wz none) => cright ⟨op, a, b, c⟩ ⟨ha, hb, hc⟩ (HT0.out.kept h))
    rw [okC_no _ hop] at CR
    unfold Cl.val at CR
    simp only at CR
    clear hop
    go_enter Tryd.func6, Tryd.ntmps6
    go_wp2_with fail
    refine (AL.out).mono ?_
    rintro e w1 ⟨rfl, g1⟩
    have G1 := Lib.hid (G0.out.trans g1)
    go_wp2_with fail
    refine (C1.out _).mono ?_
    rintro e w2 ⟨rfl, g2⟩
    have G2 := Lib.hid (G1.out.trans g2)
    have k2 := World.grownBy_alloc w2 (.cells #[.string ⟨#[]⟩, .int .i64 0, .int .i64 0, .int .i64 0] 27) none
    have G2a := Lib.hid (G2.out.trans k2)
    have f0 : (w2.alloc (.cells #[.string ⟨#[]⟩, .int .i64 0, .int .i64 0, .int .i64 0] 27)).cell? ⟨w2.heap.size, 0, none⟩ = some (.string ⟨#[]⟩) := World.cell?_alloc_new ..
    have f1 : (w2.alloc (.cells #[.string ⟨#[]⟩, .int .i64 0, .int .i64 0, .int .i64 0] 27)).cell? ⟨w2.heap.size, 1, none⟩ = some (.int .i64 0) := World.cell?_alloc_new ..
    have f2 : (w2.alloc (.cells #[.string ⟨#[]⟩, .int .i64 0, .int .i64 0, .int .i64 0] 27)).cell? ⟨w2.heap.size, 2, none⟩ = some (.int .i64 0) := World.cell?_alloc_new ..
    have f3 : (w2.alloc (.cells #[.string ⟨#[]⟩, .int .i64 0, .int .i64 0, .int .i64 0] 27)).cell? ⟨w2.heap.size, 3, none⟩ = some (.int .i64 0) := World.cell?_alloc_new ..
    have hs_f : w2.heap.size < (w2.alloc (.cells #[.string ⟨#[]⟩, .int .i64 0, .int .i64 0, .int .i64 0] 27)).heap.size := by simp
    go_wp2_with fail
    refine (CO2.out _ (HT0.out.kept G2a.out)).mono ?_
    rintro e w3 ⟨rfl, g3⟩
    replace f0 := (g3.cell_far ⟨w2.heap.size, 0, none⟩ hs_f (by simp)).trans f0
    replace f1 := (g3.cell_far ⟨w2.heap.size, 1, none⟩ hs_f (by simp)).trans f1
    replace f2 := (g3.cell_far ⟨w2.heap.size, 2, none⟩ hs_f (by simp)).trans f2
    replace f3 := (g3.cell_far ⟨w2.heap.size, 3, none⟩ hs_f (by simp)).trans f3
    replace hs_f := Nat.lt_of_lt_of_le hs_f g3.size
    have G3 := Lib.hid (G2a.out.trans g3)
    have k3 := World.grownBy_alloc w3 (.cells #[.string ⟨nm2⟩, .int .i64 x2, .int .i64 y2, .int .i64 z2] 27) none
    have hne3_f : w2.heap.size ≠ w3.heap.size := by omega
    replace f0 := (k3.cell_far ⟨w2.heap.size, 0, none⟩ hs_f (by simp)).trans f0
    replace f1 := (k3.cell_far ⟨w2.heap.size, 1, none⟩ hs_f (by simp)).trans f1
    replace f2 := (k3.cell_far ⟨w2.heap.size, 2, none⟩ hs_f (by simp)).trans f2
    replace f3 := (k3.cell_far ⟨w2.heap.size, 3, none⟩ hs_f (by simp)).trans f3
    replace hs_f := Nat.lt_of_lt_of_le hs_f k3.size
    have G3a := Lib.hid (G3.out.trans k3)
    have g0 : (w3.alloc (.cells #[.string ⟨nm2⟩, .int .i64 x2, .int .i64 y2, .int .i64 z2] 27)).cell? ⟨w3.heap.size, 0, none⟩ = some (.string ⟨nm2⟩) := World.cell?_alloc_new ..
    have g1 : (w3.alloc (.cells #[.string ⟨nm2⟩, .int .i64 x2, .int .i64 y2, .int .i64 z2] 27)).cell? ⟨w3.heap.size, 1, none⟩ = some (.int .i64 x2) := World.cell?_alloc_new ..
    have g2 : (w3.alloc (.cells #[.string ⟨nm2⟩, .int .i64 x2, .int .i64 y2, .int .i64 z2] 27)).cell? ⟨w3.heap.size, 2, none⟩ = some (.int .i64 y2) := World.cell?_alloc_new ..
    have g3 : (w3.alloc (.cells #[.string ⟨nm2⟩, .int .i64 x2, .int .i64 y2, .int .i64 z2] 27)).cell? ⟨w3.heap.size, 3, none⟩ = some (.int .i64 z2) := World.cell?_alloc_new ..
    have hs_g : w3.heap.size < (w3.alloc (.cells #[.string ⟨nm2⟩, .int .i64 x2, .int .i64 y2, .int .i64 z2] 27)).heap.size := by simp
    go_wp2_with fail
    refine (CR.out _ G3a.out).mono ?_
    rintro e w4 ⟨rfl, g4⟩
    replace f0 := (g4.cell_far ⟨w2.heap.size, 0, none⟩ hs_f (by simp)).trans f0
    replace f1 := (g4.cell_far ⟨w2.heap.size, 1, none⟩ hs_f (by simp)).trans f1
    replace f2 := (g4.cell_far ⟨w2.heap.size, 2, none⟩ hs_f (by simp)).trans f2
    replace f3 := (g4.cell_far ⟨w2.heap.size, 3, none⟩ hs_f (by simp)).trans f3
    replace g0 := (g4.cell_far ⟨w3.heap.size, 0, none⟩ hs_g (by simp)).trans g0
    replace g1 := (g4.cell_far ⟨w3.heap.size, 1, none⟩ hs_g (by simp)).trans g1
    replace g2 := (g4.cell_far ⟨w3.heap.size, 2, none⟩ hs_g (by simp)).trans g2
    replace g3 := (g4.cell_far ⟨w3.heap.size, 3, none⟩ hs_g (by simp)).trans g3
    replace hs_f := Nat.lt_of_lt_of_le hs_f g4.size
    replace hs_g := Nat.lt_of_lt_of_le hs_g g4.size
    have G4 := Lib.hid (G3a.out.trans g4)
    go_wp2
    go_ret
    exact ⟨rfl, G4.out⟩
  · skip
    obtain ⟨k, rfl⟩ : ∃ k : Nat, op = (k : Int) := ⟨op.toNat, by omega⟩
    have hk : k < 13 := by omega
    have AL := Lib.hid (alive14 (HT0.out.kept G0.out))
    have C1 := fun w0 HT => cof_in (w := w0) k hk HT
    unfold fVal at C1
    have hna := nArgs_le k
    have hlow := Lib.hid (nm_low k hk)
    have hsome := nm_some k hk
    obtain ⟨hr1, hr2⟩ := f_rights k hk
    have han := andnot15 _ hr2
    have CV := fun (w0 : World) (HT : FormsAt w0) => cnamed (w := w0) ⟨fNm k⟩ HT
    rw [nm_named k hk] at CV
    have HAP : Hid (is = true → ((⟨fNm k⟩ : ByteArray).toList == (⟨nm2⟩ : ByteArray).toList) = decide ((k : Int) = other)) := Lib.hid (fun h => by
      obtain ⟨j, rfl, hj, rfl⟩ := HCO.out h
      by_cases e : k = j
      · subst e; simp
      · rw [nm_apart k hk j hj e]
        have : ¬ (k : Int) = (j : Int) := by omega
        simp [this])
    have HOK : Hid (∀ x y z : Nat, okC ⟨(k : Int), x, y, z⟩ = zFrom ⟨(k : Int), x, y, z⟩ (nArgs k)) := Lib.hid (fun x y z => okC_in _ k rfl hk)
    generalize fNm k = nm at *
    generalize nArgs k = na at *
    generalize fKd k = kd at *
    generalize fRt k = rt at *
    have C1 := Lib.hid C1
    have CV := Lib.hid CV
    have HR1 := Lib.hid hr1
    have HNA := Lib.hid hna
    clear hop hr1 hr2
    go_enter Tryd.func6, Tryd.ntmps6
    go_wp2_with fail
    refine (AL.out).mono ?_
    rintro e w1 ⟨rfl, g1⟩
    have G1 := Lib.hid (G0.out.trans g1)
    go_wp2_with fail
    refine (C1.out _ (HT0.out.kept G1.out)).mono ?_
    rintro e w2 ⟨rfl, g2⟩
    have G2 := Lib.hid (G1.out.trans g2)
    have k2 := World.grownBy_alloc w2 (.cells #[.string ⟨nm⟩, .int .i64 (na : Nat), .int .i64 (kd : Nat), .int .i64 (rt : Nat)] 27) none
    have G2a := Lib.hid (G2.out.trans k2)
    have f0 : (w2.alloc (.cells #[.string ⟨nm⟩, .int .i64 (na : Nat), .int .i64 (kd : Nat), .int .i64 (rt : Nat)] 27)).cell? ⟨w2.heap.size, 0, none⟩ = some (.string ⟨nm⟩) := World.cell?_alloc_new ..
    have f1 : (w2.alloc (.cells #[.string ⟨nm⟩, .int .i64 (na : Nat), .int .i64 (kd : Nat), .int .i64 (rt : Nat)] 27)).cell? ⟨w2.heap.size, 1, none⟩ = some (.int .i64 (na : Nat)) := World.cell?_alloc_new ..
    have f2 : (w2.alloc (.cells #[.string ⟨nm⟩, .int .i64 (na : Nat), .int .i64 (kd : Nat), .int .i64 (rt : Nat)] 27)).cell? ⟨w2.heap.size, 2, none⟩ = some (.int .i64 (kd : Nat)) := World.cell?_alloc_new ..
    have f3 : (w2.alloc (.cells #[.string ⟨nm⟩, .int .i64 (na : Nat), .int .i64 (kd : Nat), .int .i64 (rt : Nat)] 27)).cell? ⟨w2.heap.size, 3, none⟩ = some (.int .i64 (rt : Nat)) := World.cell?_alloc_new ..
    have hs_f : w2.heap.size < (w2.alloc (.cells #[.string ⟨nm⟩, .int .i64 (na : Nat), .int .i64 (kd : Nat), .int .i64 (rt : Nat)] 27)).heap.size := by simp
    go_wp2_with fail
    refine (CO2.out _ (HT0.out.kept G2a.out)).mono ?_
    rintro e w3 ⟨rfl, g3⟩
    replace f0 := (g3.cell_far ⟨w2.heap.size, 0, none⟩ hs_f (by simp)).trans f0
    replace f1 := (g3.cell_far ⟨w2.heap.size, 1, none⟩ hs_f (by simp)).trans f1
    replace f2 := (g3.cell_far ⟨w2.heap.size, 2, none⟩ hs_f (by simp)).trans f2
    replace f3 := (g3.cell_far ⟨w2.heap.size, 3, none⟩ hs_f (by simp)).trans f3
    replace hs_f := Nat.lt_of_lt_of_le hs_f g3.size
    have G3 := Lib.hid (G2a.out.trans g3)
    have k3 := World.grownBy_alloc w3 (.cells #[.string ⟨nm2⟩, .int .i64 x2, .int .i64 y2, .int .i64 z2] 27) none
    have hne3_f : w2.heap.size ≠ w3.heap.size := by omega
    replace f0 := (k3.cell_far ⟨w2.heap.size, 0, none⟩ hs_f (by simp)).trans f0
    replace f1 := (k3.cell_far ⟨w2.heap.size, 1, none⟩ hs_f (by simp)).trans f1
    replace f2 := (k3.cell_far ⟨w2.heap.size, 2, none⟩ hs_f (by simp)).trans f2
    replace f3 := (k3.cell_far ⟨w2.heap.size, 3, none⟩ hs_f (by simp)).trans f3
    replace hs_f := Nat.lt_of_lt_of_le hs_f k3.size
    have G3a := Lib.hid (G3.out.trans k3)
    have g0 : (w3.alloc (.cells #[.string ⟨nm2⟩, .int .i64 x2, .int .i64 y2, .int .i64 z2] 27)).cell? ⟨w3.heap.size, 0, none⟩ = some (.string ⟨nm2⟩) := World.cell?_alloc_new ..
    have g1 : (w3.alloc (.cells #[.string ⟨nm2⟩, .int .i64 x2, .int .i64 y2, .int .i64 z2] 27)).cell? ⟨w3.heap.size, 1, none⟩ = some (.int .i64 x2) := World.cell?_alloc_new ..
    have g2 : (w3.alloc (.cells #[.string ⟨nm2⟩, .int .i64 x2, .int .i64 y2, .int .i64 z2] 27)).cell? ⟨w3.heap.size, 2, none⟩ = some (.int .i64 y2) := World.cell?_alloc_new ..
    have g3 : (w3.alloc (.cells #[.string ⟨nm2⟩, .int .i64 x2, .int .i64 y2, .int .i64 z2] 27)).cell? ⟨w3.heap.size, 3, none⟩ = some (.int .i64 z2) := World.cell?_alloc_new ..
    have hs_g : w3.heap.size < (w3.alloc (.cells #[.string ⟨nm2⟩, .int .i64 x2, .int .i64 y2, .int .i64 z2] 27)).heap.size := by simp
    generalize w2.heap.size = Bf at *
    go_wp2
    have hszA : ((w3.alloc (.cells #[.string ⟨nm2⟩, .int .i64 x2, .int .i64 y2, .int .i64 z2] 27))).heap.size = w3.heap.size + 1 := by simp
    generalize hWA : (w3.alloc (.cells #[.string ⟨nm2⟩, .int .i64 x2, .int .i64 y2, .int .i64 z2] 27)) = wA at *
    generalize w3.heap.size = Bg at *
    clear hWA
    have GA := G3a
    go_loopw [50, 51] (fun pv qv wr => ∃ pos : Nat, wr = wA.iter ⟨nm⟩ pos ∧ pos ≤ (⟨nm⟩ : ByteArray).size) (fun _ _ wr => (⟨nm⟩ : ByteArray).size - wr.iterPos wA.heap.size)
    case atStart => exact ⟨0, rfl, Nat.zero_le _⟩
    case round =>
      obtain ⟨pos, rfl, hps⟩ := hrel
      by_cases hp : pos < (⟨nm⟩ : ByteArray).size
      · obtain ⟨l1, l2⟩ := hlow.out pos hp
        have hda := decode_ascii (⟨nm⟩ : ByteArray) pos hp (by omega)
        have hnx : ∀ ty, (Instr.next (.pointer (some ⟨Bg + 1, 0, none⟩)) true ty).run Tryd.prog (wA.iter ⟨nm⟩ pos) = .ok (.tuple #[.bool true, .int .i64 pos, .int .i32 ((((⟨nm⟩ : ByteArray)[pos]'hp).toNat : Nat) : Int)]) (wA.iter ⟨nm⟩ (pos + 1)) := fun ty => by
          have := run_next_any (P := Tryd.prog) wA ⟨nm⟩ pos ty hp
          rw [hda, hszA] at this
          exact this
        generalize ((⟨nm⟩ : ByteArray)[pos]'hp).toNat = y at *
        have m1 : ¬ ((y : Nat) : Int) < 97 := by omega
        have m2 : ¬ ((y : Nat) : Int) > 122 := by omega
        have HP := Lib.hid hp
        clear hp hda
        go_wp2
        go_roundw
        case rel => exact ⟨pos + 1, rfl, HP.out⟩
        case measure => have := HP.out; simp; omega
      · have hnx : ∀ ty, (Instr.next (.pointer (some ⟨Bg + 1, 0, none⟩)) true ty).run Tryd.prog (wA.iter ⟨nm⟩ pos) = .ok (.tuple #[.bool false]) (wA.iter ⟨nm⟩ pos) := fun ty => by rw [← hszA]; exact run_next_end wA ⟨nm⟩ pos ty hp
        have ki := World.grownBy_alloc wA (.stringIter ⟨nm⟩ pos) none
        rw [← iter_alloc] at ki
        clear hp hps
        replace f0 := (ki.cell_far ⟨Bf, 0, none⟩ hs_f (by simp)).trans f0
        replace f1 := (ki.cell_far ⟨Bf, 1, none⟩ hs_f (by simp)).trans f1
        replace f2 := (ki.cell_far ⟨Bf, 2, none⟩ hs_f (by simp)).trans f2
        replace f3 := (ki.cell_far ⟨Bf, 3, none⟩ hs_f (by simp)).trans f3
        replace g0 := (ki.cell_far ⟨Bg, 0, none⟩ hs_g (by simp)).trans g0
        replace g1 := (ki.cell_far ⟨Bg, 1, none⟩ hs_g (by simp)).trans g1
        replace g2 := (ki.cell_far ⟨Bg, 2, none⟩ hs_g (by simp)).trans g2
        replace g3 := (ki.cell_far ⟨Bg, 3, none⟩ hs_g (by simp)).trans g3
        replace hs_f := Nat.lt_of_lt_of_le hs_f ki.size
        replace hs_g := Nat.lt_of_lt_of_le hs_g ki.size
        have Gi := Lib.hid (G3a.out.trans ki)
        clear ki
        go_wp2_with fail
        generalize wA.iter ⟨nm⟩ pos = wB at *
        go_wp2_with fail
        refine (CV.out _ (HT0.out.kept Gi.out)).mono ?_
        rintro e w4 ⟨rfl, g4⟩
        replace f0 := (g4.cell_far ⟨Bf, 0, none⟩ hs_f (by simp)).trans f0
        replace f1 := (g4.cell_far ⟨Bf, 1, none⟩ hs_f (by simp)).trans f1
        replace f2 := (g4.cell_far ⟨Bf, 2, none⟩ hs_f (by simp)).trans f2
        replace f3 := (g4.cell_far ⟨Bf, 3, none⟩ hs_f (by simp)).trans f3
        replace g0 := (g4.cell_far ⟨Bg, 0, none⟩ hs_g (by simp)).trans g0
        replace g1 := (g4.cell_far ⟨Bg, 1, none⟩ hs_g (by simp)).trans g1
        replace g2 := (g4.cell_far ⟨Bg, 2, none⟩ hs_g (by simp)).trans g2
        replace g3 := (g4.cell_far ⟨Bg, 3, none⟩ hs_g (by simp)).trans g3
        replace hs_f := Nat.lt_of_lt_of_le hs_f g4.size
        replace hs_g := Nat.lt_of_lt_of_le hs_g g4.size
        have G4 := Lib.hid (Gi.out.trans g4)
        have kn := World.grownBy_alloc w4 (.cells #[.int .u64 (a : Nat), .int .u64 (b : Nat), .int .u64 (c : Nat)] 46) none
        have hneN : Bf ≠ w4.heap.size := by omega
        have fa0 := (kn.cell_far ⟨Bf, 0, none⟩ hs_f (by simp)).trans f0
        have fa1 := (kn.cell_far ⟨Bf, 1, none⟩ hs_f (by simp)).trans f1
        have fa2 := (kn.cell_far ⟨Bf, 2, none⟩ hs_f (by simp)).trans f2
        have fa3 := (kn.cell_far ⟨Bf, 3, none⟩ hs_f (by simp)).trans f3
        have Gn := Lib.hid (G4.out.trans kn)
        clear kn
        have hnz : 0 < nm.size := hsome
        have hl1 : (((nm.size : Nat) : Int) == 0) = false := by rw [beq_eq_false_iff_ne]; omega
        obtain ⟨eqo, heqo⟩ : ∃ q, q = decide ((k : Int) = other) := ⟨_, rfl⟩
        have HEQ := Lib.hid heqo
        clear heqo
        have t1 : ¬ ((na : Nat) : Int) < 0 := by omega
        have t2 : ¬ ((na : Nat) : Int) > 3 := by omega
        clear HEQ
        obtain ⟨gg, hg0, hg1, hg2⟩ : ∃ gg : Nat → Nat, gg 0 = a ∧ gg 1 = b ∧ gg 2 = c := ⟨fun i => if i = 0 then a else if i = 1 then b else c, rfl, rfl, rfl⟩
        have hggl : ∀ j, gg j < 18446744073709551616 ∨ 3 ≤ j := by
          intro j
          match j with
          | 0 => exact Or.inl (by rw [hg0]; exact ha)
          | 1 => exact Or.inl (by rw [hg1]; exact hb)
          | 2 => exact Or.inl (by rw [hg2]; exact hc)
          | j + 3 => exact Or.inr (by omega)
        have HGL := Lib.hid hggl
        have HTH := Lib.hid (show ThreeAt w (w4.alloc (.cells #[.int .u64 (a : Nat), .int .u64 (b : Nat), .int .u64 (c : Nat)] 46)) w4.heap.size gg na na from ⟨Gn.out, by simp, G4.out.size, fun j hj => by
          rw [World.cell?_alloc_new, if_neg (by omega)]
          match j, hj with
          | 0, _ => rw [hg0]; rfl
          | 1, _ => rw [hg1]; rfl
          | 2, _ => rw [hg2]; rfl, fun j => by simp⟩)
        clear hggl hg0 hg1 hg2
        cases is with
        | false =>
          rcases HR1.out with rfl | ⟨hk1, hk2, hk3⟩
          · skip
            go_wp2
            generalize hWC : w4.alloc (.cells #[.int .u64 (a : Nat), .int .u64 (b : Nat), .int .u64 (c : Nat)] 46) = wC at *
            generalize w4.heap.size = Bn at *
            clear hWC
            go_loopw [20] (fun iv wr => ∃ i : Nat, na ≤ i ∧ i ≤ 3 ∧ iv = .int .i64 (i : Int) ∧ ThreeAt w wr Bn gg na i) (fun iv _ => 3 - (RowKit.intOf iv).toNat)
            case atStart => exact ⟨na, Nat.le_refl _, HNA.out, rfl, HTH.out⟩
            case round =>
              obtain ⟨i, hn, hi, rfl, hm⟩ := hrel
              by_cases hlt : i < 3
              · have hcell := hm.a i hlt
                have hfr := hm.af i
                have q1 : (i : Int) < 3 := by omega
                have q0 : ¬ (i : Int) < 0 := by omega
                have HM := Lib.hid hm
                have HN := Lib.hid hn
                clear hm hn
                go_wp2
                go_roundw
                case rel => exact ⟨i + 1, by have := HN.out; omega, by omega, by go_num, HM.out.set hlt HN.out⟩
                case measure => simp [RowKit.intOf]; omega
              · obtain rfl : i = 3 := by omega
                have a0 := hm.a 0 (by decide)
                have a1 := hm.a 1 (by decide)
                have a2 := hm.a 2 (by decide)
                have hsm : ∀ j, j < 3 → (if na ≤ j ∧ j < 3 then 0 else gg j) < 18446744073709551616 := by
                  intro j hj
                  split
                  · decide
                  · rcases HGL.out j with h | h
                    · exact h
                    · omega
                have hok := HOK.out (if na ≤ 0 ∧ 0 < 3 then 0 else gg 0) (if na ≤ 1 ∧ 1 < 3 then 0 else gg 1) (if na ≤ 2 ∧ 2 < 3 then 0 else gg 2)
                have hz : zFrom ⟨(k : Int), (if na ≤ 0 ∧ 0 < 3 then 0 else gg 0), (if na ≤ 1 ∧ 1 < 3 then 0 else gg 1), (if na ≤ 2 ∧ 2 < 3 then 0 else gg 2)⟩ na = true := by
                  unfold zFrom
                  simp only [Bool.and_eq_true, Bool.or_eq_true, decide_eq_true_eq]
                  refine ⟨⟨?_, ?_⟩, ?_⟩
                  · by_cases h : 1 ≤ na
                    · exact Or.inl h
                    · exact Or.inr (if_pos ⟨by omega, by decide⟩)
                  · by_cases h : 2 ≤ na
                    · exact Or.inl h
                    · exact Or.inr (if_pos ⟨by omega, by decide⟩)
                  · by_cases h : 3 ≤ na
                    · exact Or.inl h
                    · exact Or.inr (if_pos ⟨by omega, by decide⟩)
                rw [hz] at hok
                have CR := cright (w := wr) ⟨(k : Int), (if na ≤ 0 ∧ 0 < 3 then 0 else gg 0), (if na ≤ 1 ∧ 1 < 3 then 0 else gg 1), (if na ≤ 2 ∧ 2 < 3 then 0 else gg 2)⟩ ⟨hsm 0 (by decide), hsm 1 (by decide), hsm 2 (by decide)⟩ (HT0.out.kept hm.g')
                rw [hok] at CR
                unfold Cl.val at CR
                simp only at CR
                have GM := Lib.hid hm.g'
                generalize (if na ≤ 0 ∧ 0 < 3 then 0 else gg 0) = u0 at *
                generalize (if na ≤ 1 ∧ 1 < 3 then 0 else gg 1) = u1 at *
                generalize (if na ≤ 2 ∧ 2 < 3 then 0 else gg 2) = u2 at *
                have CR := Lib.hid CR
                clear hm hsm hok hz
                go_wp2_with fail
                refine CR.out.mono ?_
                rintro e w9 ⟨rfl, g9⟩
                go_wp2
                go_ret
                exact ⟨by simp, GM.out.trans g9⟩
          · skip
            have v1 : (((kd : Nat) : Int) != 0) = true := by rw [bne_iff_ne]; omega
            have v2 : (((na : Nat) : Int) == 0) = false := by rw [beq_eq_false_iff_ne]; omega
            have v3 : (((rt : Nat) : Int) == 0) = false := by rw [beq_eq_false_iff_ne]; omega
            clear hk1 hk2 hk3
            go_wp2
            generalize hWC : w4.alloc (.cells #[.int .u64 (a : Nat), .int .u64 (b : Nat), .int .u64 (c : Nat)] 46) = wC at *
            generalize w4.heap.size = Bn at *
            clear hWC
            go_loopw [20] (fun iv wr => ∃ i : Nat, na ≤ i ∧ i ≤ 3 ∧ iv = .int .i64 (i : Int) ∧ ThreeAt w wr Bn gg na i) (fun iv _ => 3 - (RowKit.intOf iv).toNat)
            case atStart => exact ⟨na, Nat.le_refl _, HNA.out, rfl, HTH.out⟩
            case round =>
              obtain ⟨i, hn, hi, rfl, hm⟩ := hrel
              by_cases hlt : i < 3
              · have hcell := hm.a i hlt
                have hfr := hm.af i
                have q1 : (i : Int) < 3 := by omega
                have q0 : ¬ (i : Int) < 0 := by omega
                have HM := Lib.hid hm
                have HN := Lib.hid hn
                clear hm hn
                go_wp2
                go_roundw
                case rel => exact ⟨i + 1, by have := HN.out; omega, by omega, by go_num, HM.out.set hlt HN.out⟩
                case measure => simp [RowKit.intOf]; omega
              · obtain rfl : i = 3 := by omega
                have a0 := hm.a 0 (by decide)
                have a1 := hm.a 1 (by decide)
                have a2 := hm.a 2 (by decide)
                have hsm : ∀ j, j < 3 → (if na ≤ j ∧ j < 3 then 0 else gg j) < 18446744073709551616 := by
                  intro j hj
                  split
                  · decide
                  · rcases HGL.out j with h | h
                    · exact h
                    · omega
                have hok := HOK.out (if na ≤ 0 ∧ 0 < 3 then 0 else gg 0) (if na ≤ 1 ∧ 1 < 3 then 0 else gg 1) (if na ≤ 2 ∧ 2 < 3 then 0 else gg 2)
                have hz : zFrom ⟨(k : Int), (if na ≤ 0 ∧ 0 < 3 then 0 else gg 0), (if na ≤ 1 ∧ 1 < 3 then 0 else gg 1), (if na ≤ 2 ∧ 2 < 3 then 0 else gg 2)⟩ na = true := by
                  unfold zFrom
                  simp only [Bool.and_eq_true, Bool.or_eq_true, decide_eq_true_eq]
                  refine ⟨⟨?_, ?_⟩, ?_⟩
                  · by_cases h : 1 ≤ na
                    · exact Or.inl h
                    · exact Or.inr (if_pos ⟨by omega, by decide⟩)
                  · by_cases h : 2 ≤ na
                    · exact Or.inl h
                    · exact Or.inr (if_pos ⟨by omega, by decide⟩)
                  · by_cases h : 3 ≤ na
                    · exact Or.inl h
                    · exact Or.inr (if_pos ⟨by omega, by decide⟩)
                rw [hz] at hok
                have CR := cright (w := wr) ⟨(k : Int), (if na ≤ 0 ∧ 0 < 3 then 0 else gg 0), (if na ≤ 1 ∧ 1 < 3 then 0 else gg 1), (if na ≤ 2 ∧ 2 < 3 then 0 else gg 2)⟩ ⟨hsm 0 (by decide), hsm 1 (by decide), hsm 2 (by decide)⟩ (HT0.out.kept hm.g')
                rw [hok] at CR
                unfold Cl.val at CR
                simp only at CR
                have GM := Lib.hid hm.g'
                generalize (if na ≤ 0 ∧ 0 < 3 then 0 else gg 0) = u0 at *
                generalize (if na ≤ 1 ∧ 1 < 3 then 0 else gg 1) = u1 at *
                generalize (if na ≤ 2 ∧ 2 < 3 then 0 else gg 2) = u2 at *
                have CR := Lib.hid CR
                clear hm hsm hok hz
                go_wp2_with fail
                refine CR.out.mono ?_
                rintro e w9 ⟨rfl, g9⟩
                go_wp2
                go_ret
                exact ⟨by simp, GM.out.trans g9⟩
        | true =>
          have hap := HAP.out rfl
          by_cases e : (k : Int) = other
          · subst e
            simp only [decide_true] at hap
            rcases HR1.out with rfl | ⟨hk1, hk2, hk3⟩
            · skip
              go_wp2
              generalize hWC : w4.alloc (.cells #[.int .u64 (a : Nat), .int .u64 (b : Nat), .int .u64 (c : Nat)] 46) = wC at *
              generalize w4.heap.size = Bn at *
              clear hWC
              go_loopw [20] (fun iv wr => ∃ i : Nat, na ≤ i ∧ i ≤ 3 ∧ iv = .int .i64 (i : Int) ∧ ThreeAt w wr Bn gg na i) (fun iv _ => 3 - (RowKit.intOf iv).toNat)
              case atStart => exact ⟨na, Nat.le_refl _, HNA.out, rfl, HTH.out⟩
              case round =>
                obtain ⟨i, hn, hi, rfl, hm⟩ := hrel
                by_cases hlt : i < 3
                · have hcell := hm.a i hlt
                  have hfr := hm.af i
                  have q1 : (i : Int) < 3 := by omega
                  have q0 : ¬ (i : Int) < 0 := by omega
                  have HM := Lib.hid hm
                  have HN := Lib.hid hn
                  clear hm hn
                  go_wp2
                  go_roundw
                  case rel => exact ⟨i + 1, by have := HN.out; omega, by omega, by go_num, HM.out.set hlt HN.out⟩
                  case measure => simp [RowKit.intOf]; omega
                · obtain rfl : i = 3 := by omega
                  have a0 := hm.a 0 (by decide)
                  have a1 := hm.a 1 (by decide)
                  have a2 := hm.a 2 (by decide)
                  have hsm : ∀ j, j < 3 → (if na ≤ j ∧ j < 3 then 0 else gg j) < 18446744073709551616 := by
                    intro j hj
                    split
                    · decide
                    · rcases HGL.out j with h | h
                      · exact h
                      · omega
                  have hok := HOK.out (if na ≤ 0 ∧ 0 < 3 then 0 else gg 0) (if na ≤ 1 ∧ 1 < 3 then 0 else gg 1) (if na ≤ 2 ∧ 2 < 3 then 0 else gg 2)
                  have hz : zFrom ⟨(k : Int), (if na ≤ 0 ∧ 0 < 3 then 0 else gg 0), (if na ≤ 1 ∧ 1 < 3 then 0 else gg 1), (if na ≤ 2 ∧ 2 < 3 then 0 else gg 2)⟩ na = true := by
                    unfold zFrom
                    simp only [Bool.and_eq_true, Bool.or_eq_true, decide_eq_true_eq]
                    refine ⟨⟨?_, ?_⟩, ?_⟩
                    · by_cases h : 1 ≤ na
                      · exact Or.inl h
                      · exact Or.inr (if_pos ⟨by omega, by decide⟩)
                    · by_cases h : 2 ≤ na
                      · exact Or.inl h
                      · exact Or.inr (if_pos ⟨by omega, by decide⟩)
                    · by_cases h : 3 ≤ na
                      · exact Or.inl h
                      · exact Or.inr (if_pos ⟨by omega, by decide⟩)
                  rw [hz] at hok
                  have CR := cright (w := wr) ⟨(k : Int), (if na ≤ 0 ∧ 0 < 3 then 0 else gg 0), (if na ≤ 1 ∧ 1 < 3 then 0 else gg 1), (if na ≤ 2 ∧ 2 < 3 then 0 else gg 2)⟩ ⟨hsm 0 (by decide), hsm 1 (by decide), hsm 2 (by decide)⟩ (HT0.out.kept hm.g')
                  rw [hok] at CR
                  unfold Cl.val at CR
                  simp only at CR
                  have GM := Lib.hid hm.g'
                  generalize (if na ≤ 0 ∧ 0 < 3 then 0 else gg 0) = u0 at *
                  generalize (if na ≤ 1 ∧ 1 < 3 then 0 else gg 1) = u1 at *
                  generalize (if na ≤ 2 ∧ 2 < 3 then 0 else gg 2) = u2 at *
                  have CR := Lib.hid CR
                  clear hm hsm hok hz
                  go_wp2_with fail
                  refine CR.out.mono ?_
                  rintro e w9 ⟨rfl, g9⟩
                  go_wp2
                  go_ret
                  exact ⟨by simp, GM.out.trans g9⟩
            · skip
              have v1 : (((kd : Nat) : Int) != 0) = true := by rw [bne_iff_ne]; omega
              have v2 : (((na : Nat) : Int) == 0) = false := by rw [beq_eq_false_iff_ne]; omega
              have v3 : (((rt : Nat) : Int) == 0) = false := by rw [beq_eq_false_iff_ne]; omega
              clear hk1 hk2 hk3
              go_wp2
              generalize hWC : w4.alloc (.cells #[.int .u64 (a : Nat), .int .u64 (b : Nat), .int .u64 (c : Nat)] 46) = wC at *
              generalize w4.heap.size = Bn at *
              clear hWC
              go_loopw [20] (fun iv wr => ∃ i : Nat, na ≤ i ∧ i ≤ 3 ∧ iv = .int .i64 (i : Int) ∧ ThreeAt w wr Bn gg na i) (fun iv _ => 3 - (RowKit.intOf iv).toNat)
              case atStart => exact ⟨na, Nat.le_refl _, HNA.out, rfl, HTH.out⟩
              case round =>
                obtain ⟨i, hn, hi, rfl, hm⟩ := hrel
                by_cases hlt : i < 3
                · have hcell := hm.a i hlt
                  have hfr := hm.af i
                  have q1 : (i : Int) < 3 := by omega
                  have q0 : ¬ (i : Int) < 0 := by omega
                  have HM := Lib.hid hm
                  have HN := Lib.hid hn
                  clear hm hn
                  go_wp2
                  go_roundw
                  case rel => exact ⟨i + 1, by have := HN.out; omega, by omega, by go_num, HM.out.set hlt HN.out⟩
                  case measure => simp [RowKit.intOf]; omega
                · obtain rfl : i = 3 := by omega
                  have a0 := hm.a 0 (by decide)
                  have a1 := hm.a 1 (by decide)
                  have a2 := hm.a 2 (by decide)
                  have hsm : ∀ j, j < 3 → (if na ≤ j ∧ j < 3 then 0 else gg j) < 18446744073709551616 := by
                    intro j hj
                    split
                    · decide
                    · rcases HGL.out j with h | h
                      · exact h
                      · omega
                  have hok := HOK.out (if na ≤ 0 ∧ 0 < 3 then 0 else gg 0) (if na ≤ 1 ∧ 1 < 3 then 0 else gg 1) (if na ≤ 2 ∧ 2 < 3 then 0 else gg 2)
                  have hz : zFrom ⟨(k : Int), (if na ≤ 0 ∧ 0 < 3 then 0 else gg 0), (if na ≤ 1 ∧ 1 < 3 then 0 else gg 1), (if na ≤ 2 ∧ 2 < 3 then 0 else gg 2)⟩ na = true := by
                    unfold zFrom
                    simp only [Bool.and_eq_true, Bool.or_eq_true, decide_eq_true_eq]
                    refine ⟨⟨?_, ?_⟩, ?_⟩
                    · by_cases h : 1 ≤ na
                      · exact Or.inl h
                      · exact Or.inr (if_pos ⟨by omega, by decide⟩)
                    · by_cases h : 2 ≤ na
                      · exact Or.inl h
                      · exact Or.inr (if_pos ⟨by omega, by decide⟩)
                    · by_cases h : 3 ≤ na
                      · exact Or.inl h
                      · exact Or.inr (if_pos ⟨by omega, by decide⟩)
                  rw [hz] at hok
                  have CR := cright (w := wr) ⟨(k : Int), (if na ≤ 0 ∧ 0 < 3 then 0 else gg 0), (if na ≤ 1 ∧ 1 < 3 then 0 else gg 1), (if na ≤ 2 ∧ 2 < 3 then 0 else gg 2)⟩ ⟨hsm 0 (by decide), hsm 1 (by decide), hsm 2 (by decide)⟩ (HT0.out.kept hm.g')
                  rw [hok] at CR
                  unfold Cl.val at CR
                  simp only at CR
                  have GM := Lib.hid hm.g'
                  generalize (if na ≤ 0 ∧ 0 < 3 then 0 else gg 0) = u0 at *
                  generalize (if na ≤ 1 ∧ 1 < 3 then 0 else gg 1) = u1 at *
                  generalize (if na ≤ 2 ∧ 2 < 3 then 0 else gg 2) = u2 at *
                  have CR := Lib.hid CR
                  clear hm hsm hok hz
                  go_wp2_with fail
                  refine CR.out.mono ?_
                  rintro e w9 ⟨rfl, g9⟩
                  go_wp2
                  go_ret
                  exact ⟨by simp, GM.out.trans g9⟩
          · simp only [e, decide_false] at hap
            have e2 : ((k : Int) == other) = false := by rw [beq_eq_false_iff_ne]; exact e
            rcases HR1.out with rfl | ⟨hk1, hk2, hk3⟩
            · skip
              go_wp2
              generalize hWC : w4.alloc (.cells #[.int .u64 (a : Nat), .int .u64 (b : Nat), .int .u64 (c : Nat)] 46) = wC at *
              generalize w4.heap.size = Bn at *
              clear hWC
              go_loopw [20] (fun iv wr => ∃ i : Nat, na ≤ i ∧ i ≤ 3 ∧ iv = .int .i64 (i : Int) ∧ ThreeAt w wr Bn gg na i) (fun iv _ => 3 - (RowKit.intOf iv).toNat)
              case atStart => exact ⟨na, Nat.le_refl _, HNA.out, rfl, HTH.out⟩
              case round =>
                obtain ⟨i, hn, hi, rfl, hm⟩ := hrel
                by_cases hlt : i < 3
                · have hcell := hm.a i hlt
                  have hfr := hm.af i
                  have q1 : (i : Int) < 3 := by omega
                  have q0 : ¬ (i : Int) < 0 := by omega
                  have HM := Lib.hid hm
                  have HN := Lib.hid hn
                  clear hm hn
                  go_wp2
                  go_roundw
                  case rel => exact ⟨i + 1, by have := HN.out; omega, by omega, by go_num, HM.out.set hlt HN.out⟩
                  case measure => simp [RowKit.intOf]; omega
                · obtain rfl : i = 3 := by omega
                  have a0 := hm.a 0 (by decide)
                  have a1 := hm.a 1 (by decide)
                  have a2 := hm.a 2 (by decide)
                  have hsm : ∀ j, j < 3 → (if na ≤ j ∧ j < 3 then 0 else gg j) < 18446744073709551616 := by
                    intro j hj
                    split
                    · decide
                    · rcases HGL.out j with h | h
                      · exact h
                      · omega
                  have hok := HOK.out (if na ≤ 0 ∧ 0 < 3 then 0 else gg 0) (if na ≤ 1 ∧ 1 < 3 then 0 else gg 1) (if na ≤ 2 ∧ 2 < 3 then 0 else gg 2)
                  have hz : zFrom ⟨(k : Int), (if na ≤ 0 ∧ 0 < 3 then 0 else gg 0), (if na ≤ 1 ∧ 1 < 3 then 0 else gg 1), (if na ≤ 2 ∧ 2 < 3 then 0 else gg 2)⟩ na = true := by
                    unfold zFrom
                    simp only [Bool.and_eq_true, Bool.or_eq_true, decide_eq_true_eq]
                    refine ⟨⟨?_, ?_⟩, ?_⟩
                    · by_cases h : 1 ≤ na
                      · exact Or.inl h
                      · exact Or.inr (if_pos ⟨by omega, by decide⟩)
                    · by_cases h : 2 ≤ na
                      · exact Or.inl h
                      · exact Or.inr (if_pos ⟨by omega, by decide⟩)
                    · by_cases h : 3 ≤ na
                      · exact Or.inl h
                      · exact Or.inr (if_pos ⟨by omega, by decide⟩)
                  rw [hz] at hok
                  have CR := cright (w := wr) ⟨(k : Int), (if na ≤ 0 ∧ 0 < 3 then 0 else gg 0), (if na ≤ 1 ∧ 1 < 3 then 0 else gg 1), (if na ≤ 2 ∧ 2 < 3 then 0 else gg 2)⟩ ⟨hsm 0 (by decide), hsm 1 (by decide), hsm 2 (by decide)⟩ (HT0.out.kept hm.g')
                  rw [hok] at CR
                  unfold Cl.val at CR
                  simp only at CR
                  have GM := Lib.hid hm.g'
                  generalize (if na ≤ 0 ∧ 0 < 3 then 0 else gg 0) = u0 at *
                  generalize (if na ≤ 1 ∧ 1 < 3 then 0 else gg 1) = u1 at *
                  generalize (if na ≤ 2 ∧ 2 < 3 then 0 else gg 2) = u2 at *
                  have CR := Lib.hid CR
                  clear hm hsm hok hz
                  go_wp2_with fail
                  refine CR.out.mono ?_
                  rintro e w9 ⟨rfl, g9⟩
                  go_wp2
                  go_ret
                  exact ⟨by simp, GM.out.trans g9⟩
            · skip
              have v1 : (((kd : Nat) : Int) != 0) = true := by rw [bne_iff_ne]; omega
              have v2 : (((na : Nat) : Int) == 0) = false := by rw [beq_eq_false_iff_ne]; omega
              have v3 : (((rt : Nat) : Int) == 0) = false := by rw [beq_eq_false_iff_ne]; omega
              clear hk1 hk2 hk3
              go_wp2
              generalize hWC : w4.alloc (.cells #[.int .u64 (a : Nat), .int .u64 (b : Nat), .int .u64 (c : Nat)] 46) = wC at *
              generalize w4.heap.size = Bn at *
              clear hWC
              go_loopw [20] (fun iv wr => ∃ i : Nat, na ≤ i ∧ i ≤ 3 ∧ iv = .int .i64 (i : Int) ∧ ThreeAt w wr Bn gg na i) (fun iv _ => 3 - (RowKit.intOf iv).toNat)
              case atStart => exact ⟨na, Nat.le_refl _, HNA.out, rfl, HTH.out⟩
              case round =>
                obtain ⟨i, hn, hi, rfl, hm⟩ := hrel
                by_cases hlt : i < 3
                · have hcell := hm.a i hlt
                  have hfr := hm.af i
                  have q1 : (i : Int) < 3 := by omega
                  have q0 : ¬ (i : Int) < 0 := by omega
                  have HM := Lib.hid hm
                  have HN := Lib.hid hn
                  clear hm hn
                  go_wp2
                  go_roundw
                  case rel => exact ⟨i + 1, by have := HN.out; omega, by omega, by go_num, HM.out.set hlt HN.out⟩
                  case measure => simp [RowKit.intOf]; omega
                · obtain rfl : i = 3 := by omega
                  have a0 := hm.a 0 (by decide)
                  have a1 := hm.a 1 (by decide)
                  have a2 := hm.a 2 (by decide)
                  have hsm : ∀ j, j < 3 → (if na ≤ j ∧ j < 3 then 0 else gg j) < 18446744073709551616 := by
                    intro j hj
                    split
                    · decide
                    · rcases HGL.out j with h | h
                      · exact h
                      · omega
                  have hok := HOK.out (if na ≤ 0 ∧ 0 < 3 then 0 else gg 0) (if na ≤ 1 ∧ 1 < 3 then 0 else gg 1) (if na ≤ 2 ∧ 2 < 3 then 0 else gg 2)
                  have hz : zFrom ⟨(k : Int), (if na ≤ 0 ∧ 0 < 3 then 0 else gg 0), (if na ≤ 1 ∧ 1 < 3 then 0 else gg 1), (if na ≤ 2 ∧ 2 < 3 then 0 else gg 2)⟩ na = true := by
                    unfold zFrom
                    simp only [Bool.and_eq_true, Bool.or_eq_true, decide_eq_true_eq]
                    refine ⟨⟨?_, ?_⟩, ?_⟩
                    · by_cases h : 1 ≤ na
                      · exact Or.inl h
                      · exact Or.inr (if_pos ⟨by omega, by decide⟩)
                    · by_cases h : 2 ≤ na
                      · exact Or.inl h
                      · exact Or.inr (if_pos ⟨by omega, by decide⟩)
                    · by_cases h : 3 ≤ na
                      · exact Or.inl h
                      · exact Or.inr (if_pos ⟨by omega, by decide⟩)
                  rw [hz] at hok
                  have CR := cright (w := wr) ⟨(k : Int), (if na ≤ 0 ∧ 0 < 3 then 0 else gg 0), (if na ≤ 1 ∧ 1 < 3 then 0 else gg 1), (if na ≤ 2 ∧ 2 < 3 then 0 else gg 2)⟩ ⟨hsm 0 (by decide), hsm 1 (by decide), hsm 2 (by decide)⟩ (HT0.out.kept hm.g')
                  rw [hok] at CR
                  unfold Cl.val at CR
                  simp only at CR
                  have GM := Lib.hid hm.g'
                  generalize (if na ≤ 0 ∧ 0 < 3 then 0 else gg 0) = u0 at *
                  generalize (if na ≤ 1 ∧ 1 < 3 then 0 else gg 1) = u1 at *
                  generalize (if na ≤ 2 ∧ 2 < 3 then 0 else gg 2) = u2 at *
                  have CR := Lib.hid CR
                  clear hm hsm hok hz
                  go_wp2_with fail
                  refine CR.out.mono ?_
                  rintro e w9 ⟨rfl, g9⟩
                  go_wp2
                  go_ret
                  exact ⟨by simp, GM.out.trans g9⟩
end Go.Proofs.YtcnojgkolpdomaaDoor
