/-
  WireWrites, the walk, over this seat's translation.
-/
import Derived.Test.YtcnojgkolpdomaaDoorRefE1
import Derived.Test.YtcnojgkolpdomaaDoorRefE2
namespace Go.Proofs.YtcnojgkolpdomaaDoor
open Go.RowKit Go.Lib
set_option maxRecDepth 100000
set_option linter.unusedVariables false

set_option maxHeartbeats 16000000 in
theorem writes_law (v : Value) (L : List En) (w : World) (HT : FormsAt w) (H : ReadsE w v L) :
    Calls Tryd.prog 8 #[v] w fun r w' => r = .returned (.bool true) ∧ w.grownBy w' none := by
  have HT0 := Lib.hid HT
  have HE0 := Lib.hid H
  have AL := Lib.hid (alive15 HT)
  have hsm := H.sm
  obtain ⟨a0, cap0, rfl, h1, h2, h3, h4⟩ := H
  have HC : Hid (∀ (wz : World) (j : Nat) (hj : j < L.length), w.grownBy wz none → ∃ b o, a0 = some ⟨b, o, none⟩ ∧ b < wz.heap.size ∧ ∀ i, i < 9 → wz.cell? ⟨b, o + j * 9 + i, none⟩ = (L[j]).cells[i]?) := Lib.hid (fun wz j hj hg => by
    obtain ⟨b, o, rfl, hb, hc⟩ := h4 (by omega)
    exact ⟨b, o, rfl, Nat.lt_of_lt_of_le hb hg.size, fun i hi => (hg.cell_far ⟨b, o + j * 9 + i, none⟩ hb (by simp)).trans (hc j hj i hi)⟩)
  have HSM := Lib.hid hsm
  clear h1 h2 h3 h4 HT hsm
  by_cases hbig : 100 < L.length
  · have q : ((L.length : Nat) : Int) > 100 := by omega
    go_enter Tryd.func8, Tryd.ntmps8
    go_wp2_with fail
    refine AL.out.mono ?_
    rintro r w1 ⟨rfl, g1⟩
    go_wp2
    go_ret
    exact ⟨rfl, g1⟩
  have q : ¬ ((L.length : Nat) : Int) > 100 := by omega
  have hL : L.length ≤ 100 := by omega
  have CW := Lib.hid (fun (wz : World) (hg : w.grownBy wz none) => wwrite (HE0.out.grown hg) (HT0.out.kept hg) (by omega))
  clear hbig
  go_enter Tryd.func8, Tryd.ntmps8
  go_wp2_with fail
  refine AL.out.mono ?_
  rintro r w1 ⟨rfl, g1⟩
  have G1 := Lib.hid g1
  clear g1 AL
  go_wp2_with fail
  refine (CW.out _ G1.out).mono ?_
  rintro r w2 ⟨g2, v2, rfl, hb2⟩
  have G2 := Lib.hid (G1.out.trans g2)
  have HB2 := Lib.hid hb2
  clear g2 hb2 CW
  obtain ⟨all, hall⟩ : ∃ all, all = L.all okE := ⟨_, rfl⟩
  have HALL := Lib.hid hall
  cases all with
  | false =>
    have hv : wrV L v2 = .tuple #[.slice none 0 0, .int .i64 11] := by rw [wrV, ← hall]; rfl
    rw [hv]
    clear hv hall
    go_wp2
    go_loopw [19] (fun iv wr => ∃ j : Nat, j ≤ L.length ∧ iv = .int .i64 (j : Int) ∧ Hid (∀ e ∈ L.take j, okE e = true) ∧ Hid (w2.grownBy wr none)) (fun iv _ => L.length - (RowKit.intOf iv).toNat)
    case atStart => exact ⟨0, Nat.zero_le _, rfl, Lib.hid (fun e he => absurd he (by simp)), Lib.hid (World.grownBy.refl w2 none)⟩
    case round =>
      obtain ⟨j, hj, rfl, HOK, HG⟩ := hrel
      by_cases hlt : j < L.length
      · obtain ⟨b, o, ha0, hbw, hcell⟩ := HC.out wr j hlt (G2.out.trans HG.out)
        have hse := HSM.out L[j] (List.getElem_mem hlt)
        have HIN : Hid (L[j] ∈ L) := Lib.hid (List.getElem_mem hlt)
        have HTK : Hid (L.take (j + 1) = L.take j ++ [L[j]]) := Lib.hid (List.take_succ_eq_append_getElem hlt)
        generalize L[j] = e at *
        have CR := fun (wz : World) (hg : w.grownBy wz none) => wright (w := wz) e hse (HT0.out.kept hg)
        have CE := fun (wz : World) => rrightE (w := wz) e hse
        obtain ⟨k, who, n, ⟨op, a, b2, c⟩, d, m⟩ := e
        have kx := World.grownBy_alloc wr (.cells #[.int .i64 k, .int .i64 who, .int .i64 n, .int .i64 op, .int .u64 (a : Nat), .int .u64 (b2 : Nat), .int .u64 (c : Nat), .int .i64 d, .int .i64 m] 55) none
        have c0 : wr.cell? ⟨b, o + j * 9, none⟩ = some (.int .i64 k) := hcell 0 (by decide)
        have c1 : wr.cell? ⟨b, o + j * 9 + 1, none⟩ = some (.int .i64 who) := hcell 1 (by decide)
        have c2 : wr.cell? ⟨b, o + j * 9 + 2, none⟩ = some (.int .i64 n) := hcell 2 (by decide)
        have c3 : wr.cell? ⟨b, o + j * 9 + 3, none⟩ = some (.int .i64 op) := hcell 3 (by decide)
        have c4 : wr.cell? ⟨b, o + j * 9 + 4, none⟩ = some (.int .u64 (a : Nat)) := hcell 4 (by decide)
        have c5 : wr.cell? ⟨b, o + j * 9 + 5, none⟩ = some (.int .u64 (b2 : Nat)) := hcell 5 (by decide)
        have c6 : wr.cell? ⟨b, o + j * 9 + 6, none⟩ = some (.int .u64 (c : Nat)) := hcell 6 (by decide)
        have c7 : wr.cell? ⟨b, o + j * 9 + 7, none⟩ = some (.int .i64 d) := hcell 7 (by decide)
        have c8 : wr.cell? ⟨b, o + j * 9 + 8, none⟩ = some (.int .i64 m) := hcell 8 (by decide)
        subst ha0
        unfold En.val at CR CE
        simp only at CR CE
        obtain ⟨q2, hq2⟩ : ∃ q2, q2 = okE ⟨k, who, n, ⟨op, a, b2, c⟩, d, m⟩ := ⟨_, rfl⟩
        have HQ := Lib.hid hq2
        rw [← hq2] at CR CE
        have CR := Lib.hid CR
        have CE := Lib.hid CE
        have q1 : ((j : Nat) : Int) < ((L.length : Nat) : Int) := by omega
        have q0 : ¬ ((j : Nat) : Int) < 0 := by omega
        clear hcell hq2 hse
        go_wp2_with fail
        have kd := kx.trans (⟨rfl, rfl, rfl, Nat.le_refl _, fun _ _ _ => rfl⟩ : (wr.alloc (.cells #[.int .i64 k, .int .i64 who, .int .i64 n, .int .i64 op, .int .u64 (a : Nat), .int .u64 (b2 : Nat), .int .u64 (c : Nat), .int .i64 d, .int .i64 m] 55)).grownBy (wr.alloc (.cells #[.int .i64 k, .int .i64 who, .int .i64 n, .int .i64 op, .int .u64 (a : Nat), .int .u64 (b2 : Nat), .int .u64 (c : Nat), .int .i64 d, .int .i64 m] 55)).drew none)
        have x0 : (wr.alloc (.cells #[.int .i64 k, .int .i64 who, .int .i64 n, .int .i64 op, .int .u64 (a : Nat), .int .u64 (b2 : Nat), .int .u64 (c : Nat), .int .i64 d, .int .i64 m] 55)).drew.cell? ⟨wr.heap.size, 0, none⟩ = some (.int .i64 k) := World.cell?_alloc_new ..
        have x1 : (wr.alloc (.cells #[.int .i64 k, .int .i64 who, .int .i64 n, .int .i64 op, .int .u64 (a : Nat), .int .u64 (b2 : Nat), .int .u64 (c : Nat), .int .i64 d, .int .i64 m] 55)).drew.cell? ⟨wr.heap.size, 1, none⟩ = some (.int .i64 who) := World.cell?_alloc_new ..
        have x2 : (wr.alloc (.cells #[.int .i64 k, .int .i64 who, .int .i64 n, .int .i64 op, .int .u64 (a : Nat), .int .u64 (b2 : Nat), .int .u64 (c : Nat), .int .i64 d, .int .i64 m] 55)).drew.cell? ⟨wr.heap.size, 2, none⟩ = some (.int .i64 n) := World.cell?_alloc_new ..
        have x3 : (wr.alloc (.cells #[.int .i64 k, .int .i64 who, .int .i64 n, .int .i64 op, .int .u64 (a : Nat), .int .u64 (b2 : Nat), .int .u64 (c : Nat), .int .i64 d, .int .i64 m] 55)).drew.cell? ⟨wr.heap.size, 3, none⟩ = some (.int .i64 op) := World.cell?_alloc_new ..
        have x4 : (wr.alloc (.cells #[.int .i64 k, .int .i64 who, .int .i64 n, .int .i64 op, .int .u64 (a : Nat), .int .u64 (b2 : Nat), .int .u64 (c : Nat), .int .i64 d, .int .i64 m] 55)).drew.cell? ⟨wr.heap.size, 4, none⟩ = some (.int .u64 (a : Nat)) := World.cell?_alloc_new ..
        have x5 : (wr.alloc (.cells #[.int .i64 k, .int .i64 who, .int .i64 n, .int .i64 op, .int .u64 (a : Nat), .int .u64 (b2 : Nat), .int .u64 (c : Nat), .int .i64 d, .int .i64 m] 55)).drew.cell? ⟨wr.heap.size, 5, none⟩ = some (.int .u64 (b2 : Nat)) := World.cell?_alloc_new ..
        have x6 : (wr.alloc (.cells #[.int .i64 k, .int .i64 who, .int .i64 n, .int .i64 op, .int .u64 (a : Nat), .int .u64 (b2 : Nat), .int .u64 (c : Nat), .int .i64 d, .int .i64 m] 55)).drew.cell? ⟨wr.heap.size, 6, none⟩ = some (.int .u64 (c : Nat)) := World.cell?_alloc_new ..
        have x7 : (wr.alloc (.cells #[.int .i64 k, .int .i64 who, .int .i64 n, .int .i64 op, .int .u64 (a : Nat), .int .u64 (b2 : Nat), .int .u64 (c : Nat), .int .i64 d, .int .i64 m] 55)).drew.cell? ⟨wr.heap.size, 7, none⟩ = some (.int .i64 d) := World.cell?_alloc_new ..
        have x8 : (wr.alloc (.cells #[.int .i64 k, .int .i64 who, .int .i64 n, .int .i64 op, .int .u64 (a : Nat), .int .u64 (b2 : Nat), .int .u64 (c : Nat), .int .i64 d, .int .i64 m] 55)).drew.cell? ⟨wr.heap.size, 8, none⟩ = some (.int .i64 m) := World.cell?_alloc_new ..
        have hsd : wr.heap.size < (wr.alloc (.cells #[.int .i64 k, .int .i64 who, .int .i64 n, .int .i64 op, .int .u64 (a : Nat), .int .u64 (b2 : Nat), .int .u64 (c : Nat), .int .i64 d, .int .i64 m] 55)).drew.heap.size := by show _ < (wr.alloc _).heap.size; simp
        have K0 := Lib.hid (HG.out.trans kd)
        clear kx kd
        generalize wr.alloc (.cells #[.int .i64 k, .int .i64 who, .int .i64 n, .int .i64 op, .int .u64 (a : Nat), .int .u64 (b2 : Nat), .int .u64 (c : Nat), .int .i64 d, .int .i64 m] 55) = wa at *
        generalize wr.heap.size = Y at *
        refine wp_region_held_drew (S := fun w' => w'.cell? ⟨Y, 0, none⟩ = some (.int .i64 k) ∧ w'.cell? ⟨Y, 1, none⟩ = some (.int .i64 who) ∧ w'.cell? ⟨Y, 2, none⟩ = some (.int .i64 n) ∧ w'.cell? ⟨Y, 3, none⟩ = some (.int .i64 op) ∧ w'.cell? ⟨Y, 4, none⟩ = some (.int .u64 (a : Nat)) ∧ w'.cell? ⟨Y, 5, none⟩ = some (.int .u64 (b2 : Nat)) ∧ w'.cell? ⟨Y, 6, none⟩ = some (.int .u64 (c : Nat)) ∧ w'.cell? ⟨Y, 7, none⟩ = some (.int .i64 d) ∧ w'.cell? ⟨Y, 8, none⟩ = some (.int .i64 m)) (by kernel_rfl) ⟨x0, x1, x2, x3, x4, x5, x6, x7, x8⟩ (fun hHeld => ?_)
        generalize wa.drew = wd at *
        refine wpAnyH_take (i := 0) (oi := ⟨_, _, _, _, _, _⟩) (v := ?_) rfl (by kernel_rfl) (by kernel_rfl) (by kernel_rfl) (fun _ _ _ h => h) (Or.inl ⟨by rfl, ?_⟩) (by assumption) ?_
        rotate_left
        · intro wz hSw
          try dsimp only at hSw
          go_simp
          try with_reducible rfl
        simp only [Act.put, List.setIfInBounds_toArray, List.set_cons_zero, List.set_cons_succ]
        refine wpAnyH_take (i := 2) (oi := ⟨_, _, _, _, _, _⟩) (v := ?_) rfl (by kernel_rfl) (by kernel_rfl) (by kernel_rfl) (fun _ _ _ h => h) (Or.inl ⟨by rfl, ?_⟩) (by assumption) ?_
        rotate_left
        · intro wz hSw
          try dsimp only at hSw
          go_simp
          try with_reducible rfl
        simp only [Act.put, List.setIfInBounds_toArray, List.set_cons_zero, List.set_cons_succ]
        refine wpAnyH_ready (rs := [1]) (by kernel_rfl) (by simp) ?_
        refine AllReadyH.cons (o := ⟨_, _, _, _, _, _⟩) rfl (fun K hK => ?_) AllReadyH.nil
        go_simp
        refine (CR.out _ (G2.out.trans K0.out)).mono ?_
        rintro r w3 ⟨rfl, g3⟩
        replace x0 := (g3.cell_far ⟨Y, 0, none⟩ hsd (by simp)).trans x0
        replace x1 := (g3.cell_far ⟨Y, 1, none⟩ hsd (by simp)).trans x1
        replace x2 := (g3.cell_far ⟨Y, 2, none⟩ hsd (by simp)).trans x2
        replace x3 := (g3.cell_far ⟨Y, 3, none⟩ hsd (by simp)).trans x3
        replace x4 := (g3.cell_far ⟨Y, 4, none⟩ hsd (by simp)).trans x4
        replace x5 := (g3.cell_far ⟨Y, 5, none⟩ hsd (by simp)).trans x5
        replace x6 := (g3.cell_far ⟨Y, 6, none⟩ hsd (by simp)).trans x6
        replace x7 := (g3.cell_far ⟨Y, 7, none⟩ hsd (by simp)).trans x7
        replace x8 := (g3.cell_far ⟨Y, 8, none⟩ hsd (by simp)).trans x8
        replace hsd := Nat.lt_of_lt_of_le hsd g3.size
        have K1 := Lib.hid (K0.out.trans g3)
        clear g3
        refine hK.out _ _ ⟨x0, x1, x2, x3, x4, x5, x6, x7, x8⟩ (fun hHeld => ?_)
        clear hK K
        try simp only [Act.put, List.setIfInBounds_toArray, List.set_cons_zero, List.set_cons_succ]
        refine wpAnyH_ready (rs := [3]) (by kernel_rfl) (by simp) ?_
        refine AllReadyH.cons (o := ⟨_, _, _, _, _, _⟩) rfl (fun K hK => ?_) AllReadyH.nil
        go_simp
        refine (CE.out _).mono ?_
        rintro r w4 ⟨rfl, g4⟩
        replace x0 := (g4.cell_far ⟨Y, 0, none⟩ hsd (by simp)).trans x0
        replace x1 := (g4.cell_far ⟨Y, 1, none⟩ hsd (by simp)).trans x1
        replace x2 := (g4.cell_far ⟨Y, 2, none⟩ hsd (by simp)).trans x2
        replace x3 := (g4.cell_far ⟨Y, 3, none⟩ hsd (by simp)).trans x3
        replace x4 := (g4.cell_far ⟨Y, 4, none⟩ hsd (by simp)).trans x4
        replace x5 := (g4.cell_far ⟨Y, 5, none⟩ hsd (by simp)).trans x5
        replace x6 := (g4.cell_far ⟨Y, 6, none⟩ hsd (by simp)).trans x6
        replace x7 := (g4.cell_far ⟨Y, 7, none⟩ hsd (by simp)).trans x7
        replace x8 := (g4.cell_far ⟨Y, 8, none⟩ hsd (by simp)).trans x8
        replace hsd := Nat.lt_of_lt_of_le hsd g4.size
        have K2 := Lib.hid (K1.out.trans g4)
        clear g4
        refine hK.out _ _ ⟨x0, x1, x2, x3, x4, x5, x6, x7, x8⟩ (fun hHeld => ?_)
        clear hK K
        try simp only [Act.put, List.setIfInBounds_toArray, List.set_cons_zero, List.set_cons_succ]
        refine wpAnyH_take (i := 4) (oi := ⟨_, _, _, _, _, _⟩) (v := ?_) rfl (by kernel_rfl) (by kernel_rfl) (by kernel_rfl) (fun _ _ _ h => h) (Or.inl ⟨by rfl, ?_⟩) (by assumption) ?_
        rotate_left
        · intro wz hSw
          try dsimp only at hSw
          go_simp
          try with_reducible rfl
        simp only [Act.put, List.setIfInBounds_toArray, List.set_cons_zero, List.set_cons_succ]
        refine wpAnyH_done (by kernel_rfl) ?_ _
        clear hHeld CR
        go_wp2_with fail
        refine (CE.out _).mono ?_
        rintro r w5 ⟨rfl, g5⟩
        have K3 := Lib.hid (K2.out.trans g5)
        clear g5 CE x0 x1 x2 x3 x4 x5 x6 x7 x8
        cases q2 with
        | false =>
          go_wp2
          go_ret
          exact ⟨by simp, G2.out.trans K3.out⟩
        | true =>
          have HOK2 : Hid (∀ e ∈ L.take (j + 1), okE e = true) := Lib.hid (fun e he => by
            rw [HTK.out] at he
            rcases List.mem_append.1 he with he | he
            · exact HOK.out e he
            · simp at he; subst he; exact HQ.out.symm)
          go_wp2
          go_roundw
          case rel => exact ⟨j + 1, by omega, by go_num, HOK2, K3⟩
          case measure => simp [RowKit.intOf]; omega
      · obtain rfl : j = L.length := by omega
        have hbad : L.all okE = true := List.all_eq_true.2 (fun e he => HOK.out e (by rw [List.take_length]; exact he))
        rw [← HALL.out] at hbad
        exact absurd hbad (by simp)
  | true =>
    have hv : wrV L v2 = .tuple #[v2, .int .i64 0] := by rw [wrV, ← hall]; rfl
    rw [hv]
    clear hv hall
    have hb2 := HB2.out HALL.out.symm
    have hiB : isB (wrB L) := wrB_isB (fun e he => List.all_eq_true.1 HALL.out.symm e he)
    have HR2 := Lib.hid (hb2.reads hiB)
    obtain ⟨l2, c2, rfl, _, _⟩ := HR2.out.form
    have HIB := Lib.hid hiB
    clear hb2 HB2 hiB
    go_wp2
    go_loopw [19] (fun iv wr => ∃ j : Nat, j ≤ L.length ∧ iv = .int .i64 (j : Int) ∧ Hid (∀ e ∈ L.take j, okE e = true) ∧ Hid (w2.grownBy wr none)) (fun iv _ => L.length - (RowKit.intOf iv).toNat)
    case atStart => exact ⟨0, Nat.zero_le _, rfl, Lib.hid (fun e he => absurd he (by simp)), Lib.hid (World.grownBy.refl w2 none)⟩
    case round =>
      obtain ⟨j, hj, rfl, HOK, HG⟩ := hrel
      by_cases hlt : j < L.length
      · obtain ⟨b, o, ha0, hbw, hcell⟩ := HC.out wr j hlt (G2.out.trans HG.out)
        have hse := HSM.out L[j] (List.getElem_mem hlt)
        have HIN : Hid (L[j] ∈ L) := Lib.hid (List.getElem_mem hlt)
        have HTK : Hid (L.take (j + 1) = L.take j ++ [L[j]]) := Lib.hid (List.take_succ_eq_append_getElem hlt)
        generalize L[j] = e at *
        have CR := fun (wz : World) (hg : w.grownBy wz none) => wright (w := wz) e hse (HT0.out.kept hg)
        have CE := fun (wz : World) => rrightE (w := wz) e hse
        obtain ⟨k, who, n, ⟨op, a, b2, c⟩, d, m⟩ := e
        have kx := World.grownBy_alloc wr (.cells #[.int .i64 k, .int .i64 who, .int .i64 n, .int .i64 op, .int .u64 (a : Nat), .int .u64 (b2 : Nat), .int .u64 (c : Nat), .int .i64 d, .int .i64 m] 55) none
        have c0 : wr.cell? ⟨b, o + j * 9, none⟩ = some (.int .i64 k) := hcell 0 (by decide)
        have c1 : wr.cell? ⟨b, o + j * 9 + 1, none⟩ = some (.int .i64 who) := hcell 1 (by decide)
        have c2 : wr.cell? ⟨b, o + j * 9 + 2, none⟩ = some (.int .i64 n) := hcell 2 (by decide)
        have c3 : wr.cell? ⟨b, o + j * 9 + 3, none⟩ = some (.int .i64 op) := hcell 3 (by decide)
        have c4 : wr.cell? ⟨b, o + j * 9 + 4, none⟩ = some (.int .u64 (a : Nat)) := hcell 4 (by decide)
        have c5 : wr.cell? ⟨b, o + j * 9 + 5, none⟩ = some (.int .u64 (b2 : Nat)) := hcell 5 (by decide)
        have c6 : wr.cell? ⟨b, o + j * 9 + 6, none⟩ = some (.int .u64 (c : Nat)) := hcell 6 (by decide)
        have c7 : wr.cell? ⟨b, o + j * 9 + 7, none⟩ = some (.int .i64 d) := hcell 7 (by decide)
        have c8 : wr.cell? ⟨b, o + j * 9 + 8, none⟩ = some (.int .i64 m) := hcell 8 (by decide)
        subst ha0
        unfold En.val at CR CE
        simp only at CR CE
        obtain ⟨q2, hq2⟩ : ∃ q2, q2 = okE ⟨k, who, n, ⟨op, a, b2, c⟩, d, m⟩ := ⟨_, rfl⟩
        have HQ := Lib.hid hq2
        rw [← hq2] at CR CE
        have CR := Lib.hid CR
        have CE := Lib.hid CE
        have q1 : ((j : Nat) : Int) < ((L.length : Nat) : Int) := by omega
        have q0 : ¬ ((j : Nat) : Int) < 0 := by omega
        clear hcell hq2 hse
        go_wp2_with fail
        have kd := kx.trans (⟨rfl, rfl, rfl, Nat.le_refl _, fun _ _ _ => rfl⟩ : (wr.alloc (.cells #[.int .i64 k, .int .i64 who, .int .i64 n, .int .i64 op, .int .u64 (a : Nat), .int .u64 (b2 : Nat), .int .u64 (c : Nat), .int .i64 d, .int .i64 m] 55)).grownBy (wr.alloc (.cells #[.int .i64 k, .int .i64 who, .int .i64 n, .int .i64 op, .int .u64 (a : Nat), .int .u64 (b2 : Nat), .int .u64 (c : Nat), .int .i64 d, .int .i64 m] 55)).drew none)
        have x0 : (wr.alloc (.cells #[.int .i64 k, .int .i64 who, .int .i64 n, .int .i64 op, .int .u64 (a : Nat), .int .u64 (b2 : Nat), .int .u64 (c : Nat), .int .i64 d, .int .i64 m] 55)).drew.cell? ⟨wr.heap.size, 0, none⟩ = some (.int .i64 k) := World.cell?_alloc_new ..
        have x1 : (wr.alloc (.cells #[.int .i64 k, .int .i64 who, .int .i64 n, .int .i64 op, .int .u64 (a : Nat), .int .u64 (b2 : Nat), .int .u64 (c : Nat), .int .i64 d, .int .i64 m] 55)).drew.cell? ⟨wr.heap.size, 1, none⟩ = some (.int .i64 who) := World.cell?_alloc_new ..
        have x2 : (wr.alloc (.cells #[.int .i64 k, .int .i64 who, .int .i64 n, .int .i64 op, .int .u64 (a : Nat), .int .u64 (b2 : Nat), .int .u64 (c : Nat), .int .i64 d, .int .i64 m] 55)).drew.cell? ⟨wr.heap.size, 2, none⟩ = some (.int .i64 n) := World.cell?_alloc_new ..
        have x3 : (wr.alloc (.cells #[.int .i64 k, .int .i64 who, .int .i64 n, .int .i64 op, .int .u64 (a : Nat), .int .u64 (b2 : Nat), .int .u64 (c : Nat), .int .i64 d, .int .i64 m] 55)).drew.cell? ⟨wr.heap.size, 3, none⟩ = some (.int .i64 op) := World.cell?_alloc_new ..
        have x4 : (wr.alloc (.cells #[.int .i64 k, .int .i64 who, .int .i64 n, .int .i64 op, .int .u64 (a : Nat), .int .u64 (b2 : Nat), .int .u64 (c : Nat), .int .i64 d, .int .i64 m] 55)).drew.cell? ⟨wr.heap.size, 4, none⟩ = some (.int .u64 (a : Nat)) := World.cell?_alloc_new ..
        have x5 : (wr.alloc (.cells #[.int .i64 k, .int .i64 who, .int .i64 n, .int .i64 op, .int .u64 (a : Nat), .int .u64 (b2 : Nat), .int .u64 (c : Nat), .int .i64 d, .int .i64 m] 55)).drew.cell? ⟨wr.heap.size, 5, none⟩ = some (.int .u64 (b2 : Nat)) := World.cell?_alloc_new ..
        have x6 : (wr.alloc (.cells #[.int .i64 k, .int .i64 who, .int .i64 n, .int .i64 op, .int .u64 (a : Nat), .int .u64 (b2 : Nat), .int .u64 (c : Nat), .int .i64 d, .int .i64 m] 55)).drew.cell? ⟨wr.heap.size, 6, none⟩ = some (.int .u64 (c : Nat)) := World.cell?_alloc_new ..
        have x7 : (wr.alloc (.cells #[.int .i64 k, .int .i64 who, .int .i64 n, .int .i64 op, .int .u64 (a : Nat), .int .u64 (b2 : Nat), .int .u64 (c : Nat), .int .i64 d, .int .i64 m] 55)).drew.cell? ⟨wr.heap.size, 7, none⟩ = some (.int .i64 d) := World.cell?_alloc_new ..
        have x8 : (wr.alloc (.cells #[.int .i64 k, .int .i64 who, .int .i64 n, .int .i64 op, .int .u64 (a : Nat), .int .u64 (b2 : Nat), .int .u64 (c : Nat), .int .i64 d, .int .i64 m] 55)).drew.cell? ⟨wr.heap.size, 8, none⟩ = some (.int .i64 m) := World.cell?_alloc_new ..
        have hsd : wr.heap.size < (wr.alloc (.cells #[.int .i64 k, .int .i64 who, .int .i64 n, .int .i64 op, .int .u64 (a : Nat), .int .u64 (b2 : Nat), .int .u64 (c : Nat), .int .i64 d, .int .i64 m] 55)).drew.heap.size := by show _ < (wr.alloc _).heap.size; simp
        have K0 := Lib.hid (HG.out.trans kd)
        clear kx kd
        generalize wr.alloc (.cells #[.int .i64 k, .int .i64 who, .int .i64 n, .int .i64 op, .int .u64 (a : Nat), .int .u64 (b2 : Nat), .int .u64 (c : Nat), .int .i64 d, .int .i64 m] 55) = wa at *
        generalize wr.heap.size = Y at *
        refine wp_region_held_drew (S := fun w' => w'.cell? ⟨Y, 0, none⟩ = some (.int .i64 k) ∧ w'.cell? ⟨Y, 1, none⟩ = some (.int .i64 who) ∧ w'.cell? ⟨Y, 2, none⟩ = some (.int .i64 n) ∧ w'.cell? ⟨Y, 3, none⟩ = some (.int .i64 op) ∧ w'.cell? ⟨Y, 4, none⟩ = some (.int .u64 (a : Nat)) ∧ w'.cell? ⟨Y, 5, none⟩ = some (.int .u64 (b2 : Nat)) ∧ w'.cell? ⟨Y, 6, none⟩ = some (.int .u64 (c : Nat)) ∧ w'.cell? ⟨Y, 7, none⟩ = some (.int .i64 d) ∧ w'.cell? ⟨Y, 8, none⟩ = some (.int .i64 m)) (by kernel_rfl) ⟨x0, x1, x2, x3, x4, x5, x6, x7, x8⟩ (fun hHeld => ?_)
        generalize wa.drew = wd at *
        refine wpAnyH_take (i := 0) (oi := ⟨_, _, _, _, _, _⟩) (v := ?_) rfl (by kernel_rfl) (by kernel_rfl) (by kernel_rfl) (fun _ _ _ h => h) (Or.inl ⟨by rfl, ?_⟩) (by assumption) ?_
        rotate_left
        · intro wz hSw
          try dsimp only at hSw
          go_simp
          try with_reducible rfl
        simp only [Act.put, List.setIfInBounds_toArray, List.set_cons_zero, List.set_cons_succ]
        refine wpAnyH_take (i := 2) (oi := ⟨_, _, _, _, _, _⟩) (v := ?_) rfl (by kernel_rfl) (by kernel_rfl) (by kernel_rfl) (fun _ _ _ h => h) (Or.inl ⟨by rfl, ?_⟩) (by assumption) ?_
        rotate_left
        · intro wz hSw
          try dsimp only at hSw
          go_simp
          try with_reducible rfl
        simp only [Act.put, List.setIfInBounds_toArray, List.set_cons_zero, List.set_cons_succ]
        refine wpAnyH_ready (rs := [1]) (by kernel_rfl) (by simp) ?_
        refine AllReadyH.cons (o := ⟨_, _, _, _, _, _⟩) rfl (fun K hK => ?_) AllReadyH.nil
        go_simp
        refine (CR.out _ (G2.out.trans K0.out)).mono ?_
        rintro r w3 ⟨rfl, g3⟩
        replace x0 := (g3.cell_far ⟨Y, 0, none⟩ hsd (by simp)).trans x0
        replace x1 := (g3.cell_far ⟨Y, 1, none⟩ hsd (by simp)).trans x1
        replace x2 := (g3.cell_far ⟨Y, 2, none⟩ hsd (by simp)).trans x2
        replace x3 := (g3.cell_far ⟨Y, 3, none⟩ hsd (by simp)).trans x3
        replace x4 := (g3.cell_far ⟨Y, 4, none⟩ hsd (by simp)).trans x4
        replace x5 := (g3.cell_far ⟨Y, 5, none⟩ hsd (by simp)).trans x5
        replace x6 := (g3.cell_far ⟨Y, 6, none⟩ hsd (by simp)).trans x6
        replace x7 := (g3.cell_far ⟨Y, 7, none⟩ hsd (by simp)).trans x7
        replace x8 := (g3.cell_far ⟨Y, 8, none⟩ hsd (by simp)).trans x8
        replace hsd := Nat.lt_of_lt_of_le hsd g3.size
        have K1 := Lib.hid (K0.out.trans g3)
        clear g3
        refine hK.out _ _ ⟨x0, x1, x2, x3, x4, x5, x6, x7, x8⟩ (fun hHeld => ?_)
        clear hK K
        try simp only [Act.put, List.setIfInBounds_toArray, List.set_cons_zero, List.set_cons_succ]
        refine wpAnyH_ready (rs := [3]) (by kernel_rfl) (by simp) ?_
        refine AllReadyH.cons (o := ⟨_, _, _, _, _, _⟩) rfl (fun K hK => ?_) AllReadyH.nil
        go_simp
        refine (CE.out _).mono ?_
        rintro r w4 ⟨rfl, g4⟩
        replace x0 := (g4.cell_far ⟨Y, 0, none⟩ hsd (by simp)).trans x0
        replace x1 := (g4.cell_far ⟨Y, 1, none⟩ hsd (by simp)).trans x1
        replace x2 := (g4.cell_far ⟨Y, 2, none⟩ hsd (by simp)).trans x2
        replace x3 := (g4.cell_far ⟨Y, 3, none⟩ hsd (by simp)).trans x3
        replace x4 := (g4.cell_far ⟨Y, 4, none⟩ hsd (by simp)).trans x4
        replace x5 := (g4.cell_far ⟨Y, 5, none⟩ hsd (by simp)).trans x5
        replace x6 := (g4.cell_far ⟨Y, 6, none⟩ hsd (by simp)).trans x6
        replace x7 := (g4.cell_far ⟨Y, 7, none⟩ hsd (by simp)).trans x7
        replace x8 := (g4.cell_far ⟨Y, 8, none⟩ hsd (by simp)).trans x8
        replace hsd := Nat.lt_of_lt_of_le hsd g4.size
        have K2 := Lib.hid (K1.out.trans g4)
        clear g4
        refine hK.out _ _ ⟨x0, x1, x2, x3, x4, x5, x6, x7, x8⟩ (fun hHeld => ?_)
        clear hK K
        try simp only [Act.put, List.setIfInBounds_toArray, List.set_cons_zero, List.set_cons_succ]
        refine wpAnyH_take (i := 4) (oi := ⟨_, _, _, _, _, _⟩) (v := ?_) rfl (by kernel_rfl) (by kernel_rfl) (by kernel_rfl) (fun _ _ _ h => h) (Or.inl ⟨by rfl, ?_⟩) (by assumption) ?_
        rotate_left
        · intro wz hSw
          try dsimp only at hSw
          go_simp
          try with_reducible rfl
        simp only [Act.put, List.setIfInBounds_toArray, List.set_cons_zero, List.set_cons_succ]
        refine wpAnyH_done (by kernel_rfl) ?_ _
        clear hHeld CR
        go_wp2_with fail
        refine (CE.out _).mono ?_
        rintro r w5 ⟨rfl, g5⟩
        have K3 := Lib.hid (K2.out.trans g5)
        clear g5 CE x0 x1 x2 x3 x4 x5 x6 x7 x8
        cases q2 with
        | false =>
          have hbad := List.all_eq_true.1 HALL.out.symm _ HIN.out
          rw [← HQ.out] at hbad
          exact absurd hbad (by simp)
        | true =>
          have HOK2 : Hid (∀ e ∈ L.take (j + 1), okE e = true) := Lib.hid (fun e he => by
            rw [HTK.out] at he
            rcases List.mem_append.1 he with he | he
            · exact HOK.out e he
            · simp at he; subst he; exact HQ.out.symm)
          go_wp2
          go_roundw
          case rel => exact ⟨j + 1, by omega, by go_num, HOK2, K3⟩
          case measure => simp [RowKit.intOf]; omega
      · obtain rfl : j = L.length := by omega
        have G3 := Lib.hid (G2.out.trans HG.out)
        have CA := Lib.hid (rallE (HE0.out.grown G3.out) HALL.out.symm hL)
        have HR3 := Lib.hid (HR2.out.grown HG.out)
        go_wp2_with fail
        refine CA.out.mono ?_
        rintro r w6 ⟨v6, rfl, q6, g6⟩
        have SB := rsameB (HR3.out.grown g6) (q6.reads HIB.out)
        simp only [decide_true] at SB
        have SB := Lib.hid SB
        have G6 := Lib.hid (G3.out.trans g6)
        clear q6 g6 CA
        go_wp2_with fail
        refine SB.out.mono ?_
        rintro r w7 ⟨rfl, rfl⟩
        go_wp2
        go_ret
        exact ⟨by simp, G6.out⟩
end Go.Proofs.YtcnojgkolpdomaaDoor
