/-
  call.Read, over this seat's translation: the call of bytes.
-/
import Derived.Test.YtcnojgkolpdomaaDoorCall4
import Derived.Deep.RegionHeld3
namespace Go.Proofs.YtcnojgkolpdomaaDoor
open Go.RowKit Go.Lib
set_option maxRecDepth 100000
set_option linter.unusedVariables false

/-- The rest of a slice that can be read. -/
theorem ReadsB.drop {w : World} {b o cap : Nat} {F : List Nat} (h : ReadsB w (.slice (some ⟨b, o, none⟩) F.length cap) F) (k m c' : Nat) (hk : k ≤ F.length) (hm : m = F.length - k) (hc' : c' = cap - k) : ReadsB w (.slice (some ⟨b, o + k, none⟩) m c') (F.drop k) := by
  subst hm hc'
  obtain ⟨a, cap', e, h1, h2, h3, h4⟩ := h
  injection e with e1 e2 e3
  subst e1 e3
  refine ⟨_, cap - k, by rw [List.length_drop], by rw [List.length_drop]; omega, by omega, isB_drop h3 k, fun h0 => ?_⟩
  rw [List.length_drop] at h0
  obtain ⟨b', o', e, hb, hc⟩ := h4 (by omega)
  injection e with e
  injection e with e5 e6
  subst e5 e6
  refine ⟨b, o + k, rfl, hb, fun j hj => ?_⟩
  rw [List.length_drop] at hj
  rw [Nat.add_assoc, hc (k + j) (by omega), List.getElem_drop]
theorem ReadsB.at {w : World} {a : Option Addr} {n cap : Nat} {F : List Nat} (h : ReadsB w (.slice a n cap) F) (h0 : 0 < F.length) : ∃ b o, a = some ⟨b, o, none⟩ ∧ n = F.length ∧ F.length ≤ cap ∧ cap ≤ maxLen ∧ b < w.heap.size ∧ ∀ j (h : j < F.length), w.cell? ⟨b, o + j, none⟩ = some (.int .u8 (F[j] : Nat)) := by
  obtain ⟨a', cap', e, h1, h2, h3, h4⟩ := h
  injection e with e1 e2 e3
  subst e1 e3
  obtain ⟨b, o, rfl, hb, hc⟩ := h4 h0
  exact ⟨b, o, rfl, e2, h1, h2, hb, hc⟩

/-- What is read of bytes, as a result. -/
def crV (F : List Nat) : Value := .tuple #[((cr F).getD zC).val, .bool (cr F).isSome]
theorem crV_no {F : List Nat} (h : F.length = 25 → okC (clOf F) = false) : crV F = .tuple #[.agg #[.int .i64 0, .int .u64 0, .int .u64 0, .int .u64 0], .bool false] := by
  have : cr F = none := by
    unfold cr
    rw [if_neg]
    rintro ⟨h1, h2⟩
    rw [h h1] at h2
    exact absurd h2 (by simp)
  rw [crV, this]
  rfl
theorem crV_ok {F : List Nat} (h : F.length = 25) (ho : okC (clOf F) = true) : crV F = .tuple #[(clOf F).val, .bool true] := by
  have : cr F = some (clOf F) := by unfold cr; rw [if_pos ⟨h, ho⟩]
  rw [crV, this]
  rfl

set_option maxHeartbeats 1000000 in
theorem cread_len {w : World} {v : Value} {F : List Nat} (H : ReadsB w v F) (hl : F.length ≠ 25) :
    Calls Tryd.prog 25 #[v] w fun e w' => e = .returned (crV F) ∧ w.grownBy w' none := by
  rw [crV_no (fun h => absurd h hl)]
  obtain ⟨a, cap, rfl, hx1, hx2, hx3, hx4⟩ := H
  clear hx1 hx2 hx3 hx4
  have q : ((F.length : Int) != 25) = true := by rw [bne_iff_ne]; omega
  generalize F.length = n at *
  clear hl
  go_enter Tryd.func25, Tryd.ntmps25
  go_wp2
  exact bodyPost_ret (v := .tuple #[.agg #[.int .i64 0, .int .u64 0, .int .u64 0, .int .u64 0], .bool false]) (by simp [results, Tryd.results25, go_sem]) rfl ⟨rfl, World.grownBy_alloc w _ none⟩

/-- What call.Read has in memory behind j of the three numbers. -/
structure RdMid (w wr : World) (B : Nat) (h : Nat → Nat) (j : Nat) : Prop where
  g : w.grownBy wr none
  sz : B + 1 < wr.heap.size
  bw : w.heap.size ≤ B
  r0 : wr.cell? ⟨B, 0, none⟩ = some (.int .i64 0)
  r1 : wr.cell? ⟨B, 1, none⟩ = some (.int .u64 0)
  r2 : wr.cell? ⟨B, 2, none⟩ = some (.int .u64 0)
  r3 : wr.cell? ⟨B, 3, none⟩ = some (.int .u64 0)
  rf : ∀ i, wr.frozen? ⟨B, i, none⟩ = false
  a : ∀ i, i < 3 → wr.cell? ⟨B + 1, i, none⟩ = some (.int .u64 ((if i < j then h i else 0 : Nat) : Int))
  af : ∀ i, wr.frozen? ⟨B + 1, i, none⟩ = false
theorem RdMid.kept {w wr w' : World} {B : Nat} {h : Nat → Nat} {j : Nat} (H : RdMid w wr B h j) (k : wr.grownBy w' none) : RdMid w w' B h j := by
  have hsz := H.sz
  have c : ∀ b i, b < wr.heap.size → w'.cell? ⟨b, i, none⟩ = wr.cell? ⟨b, i, none⟩ := fun b i hb => k.cell_far ⟨b, i, none⟩ hb (by simp)
  have f : ∀ b i, b < wr.heap.size → w'.frozen? ⟨b, i, none⟩ = wr.frozen? ⟨b, i, none⟩ := fun b i hb => k.frozen_far ⟨b, i, none⟩ hb (by simp)
  exact ⟨H.g.trans k, Nat.lt_of_lt_of_le H.sz k.size, H.bw, (c _ _ (by omega)).trans H.r0, (c _ _ (by omega)).trans H.r1, (c _ _ (by omega)).trans H.r2, (c _ _ (by omega)).trans H.r3, fun i => (f _ i (by omega)).trans (H.rf i), fun i hi => (c _ i H.sz).trans (H.a i hi), fun i => (f _ i H.sz).trans (H.af i)⟩
theorem RdMid.set {w wr : World} {B : Nat} {h : Nat → Nat} {j : Nat} (H : RdMid w wr B h j) (hj : j < 3) (y : Nat) (hy : y = h j) : RdMid w (wr.setCell ⟨B + 1, j, none⟩ (.int .u64 (y : Int))) B h (j + 1) := by
  subst hy
  have hsz := H.sz
  have hbw := H.bw
  have c : ∀ i, (wr.setCell ⟨B + 1, j, none⟩ (.int .u64 ((h j : Nat) : Int))).cell? ⟨B, i, none⟩ = wr.cell? ⟨B, i, none⟩ := fun i => World.cell?_setCell_far _ _ _ _ (by simp)
  have f : ∀ p, (wr.setCell ⟨B + 1, j, none⟩ (.int .u64 ((h j : Nat) : Int))).frozen? p = wr.frozen? p := fun p => World.frozen?_setCell ..
  have ko := Only.set (lo := B + 1) (hi := B + 2) wr ⟨B + 1, j, none⟩ (.int .u64 ((h j : Nat) : Int)) (Nat.le_refl _) (by simp)
  refine ⟨ko.on H.g (by omega), by rw [show (wr.setCell ⟨B + 1, j, none⟩ (.int .u64 ((h j : Nat) : Int))).heap.size = wr.heap.size by simp [World.setCell]]; exact hsz, hbw, (c 0).trans H.r0, (c 1).trans H.r1, (c 2).trans H.r2, (c 3).trans H.r3, fun i => (f _).trans (H.rf i), fun i hi => ?_, fun i => (f _).trans (H.af i)⟩
  by_cases e : i = j
  · subst e
    rw [World.cell?_setCell_same _ _ _ (H.a i hi), if_pos (by omega)]
  · rw [World.cell?_setCell_other _ _ _ _ (by intro h'; injection h' with _ h'; exact e h'.symm), H.a i hi]
    by_cases hlt : i < j
    · rw [if_pos hlt, if_pos (by omega)]
    · rw [if_neg hlt, if_neg (by omega)]

set_option maxHeartbeats 2000000 in
theorem cread {w : World} {v : Value} {F : List Nat} (H : ReadsB w v F) (HT : FormsAt w) :
    Calls Tryd.prog 25 #[v] w fun e w' => e = .returned (crV F) ∧ w.grownBy w' none := by
  by_cases hl : F.length ≠ 25
  · exact cread_len H hl
  have hl : F.length = 25 := by omega
  obtain ⟨R, hR⟩ : ∃ R, R = crV F := ⟨_, rfl⟩
  rw [← hR]
  have HV := Lib.hid hR
  clear hR
  obtain ⟨a, cap, rfl, h1, h2, hB, h4⟩ := H
  obtain ⟨b, o, rfl, hb, hc⟩ := h4 (by omega)
  have HH : Hid (ReadsB w (.slice (some ⟨b, o, none⟩) F.length cap) F) := Lib.hid ⟨_, cap, rfl, h1, h2, hB, h4⟩
  have k1 := World.grownBy_alloc w (.cells #[.int .i64 0, .int .u64 0, .int .u64 0, .int .u64 0] 24) none
  have k2 := k1.trans (World.grownBy_alloc (w.alloc (.cells #[.int .i64 0, .int .u64 0, .int .u64 0, .int .u64 0] 24)) (.cells #[.int .u64 0, .int .u64 0, .int .u64 0] 46) none)
  rw [hl]
  clear h4 hc
  go_enter Tryd.func25, Tryd.ntmps25
  go_wp2
  obtain ⟨h, hh⟩ : ∃ h : Nat → Nat, h = fun i => num ((F.drop (1 + 8 * i)).take 8) := ⟨_, rfl⟩
  have hcl : clOf F = ⟨(F[0] : Nat), h 0, h 1, h 2⟩ := by
    rw [hh, clOf, List.getD_eq_getElem?_getD, List.getElem?_eq_getElem (by omega)]; rfl
  have HCL := Lib.hid hcl
  have hst : RdMid w ((w.alloc (.cells #[.int .i64 0, .int .u64 0, .int .u64 0, .int .u64 0] 24)).alloc (.cells #[.int .u64 0, .int .u64 0, .int .u64 0] 46)) w.heap.size h 0 := by
    have e1 : (w.alloc (.cells #[.int .i64 0, .int .u64 0, .int .u64 0, .int .u64 0] 24)).heap.size = w.heap.size + 1 := by simp
    have c0 : ∀ i, ((w.alloc (.cells #[.int .i64 0, .int .u64 0, .int .u64 0, .int .u64 0] 24)).alloc (.cells #[.int .u64 0, .int .u64 0, .int .u64 0] 46)).cell? ⟨w.heap.size, i, none⟩ = (w.alloc (.cells #[.int .i64 0, .int .u64 0, .int .u64 0, .int .u64 0] 24)).cell? ⟨w.heap.size, i, none⟩ := fun i => (World.grownBy_alloc _ _ none).cell_far ⟨w.heap.size, i, none⟩ (by simp) (by simp)
    have f0 : ∀ i, ((w.alloc (.cells #[.int .i64 0, .int .u64 0, .int .u64 0, .int .u64 0] 24)).alloc (.cells #[.int .u64 0, .int .u64 0, .int .u64 0] 46)).frozen? ⟨w.heap.size, i, none⟩ = (w.alloc (.cells #[.int .i64 0, .int .u64 0, .int .u64 0, .int .u64 0] 24)).frozen? ⟨w.heap.size, i, none⟩ := fun i => (World.grownBy_alloc _ _ none).frozen_far ⟨w.heap.size, i, none⟩ (by simp) (by simp)
    refine ⟨k2, by simp, Nat.le_refl _, (c0 0).trans (World.cell?_alloc_new ..), (c0 1).trans (World.cell?_alloc_new ..), (c0 2).trans (World.cell?_alloc_new ..), (c0 3).trans (World.cell?_alloc_new ..), fun i => (f0 i).trans (by simp), fun i hi => ?_, fun i => ?_⟩
    · rw [← e1, World.cell?_alloc_new, if_neg (by omega)]
      match i, hi with
      | 0, _ => rfl
      | 1, _ => rfl
      | 2, _ => rfl
    · rw [← e1]; simp
  generalize ((w.alloc (.cells #[.int .i64 0, .int .u64 0, .int .u64 0, .int .u64 0] 24)).alloc (.cells #[.int .u64 0, .int .u64 0, .int .u64 0] 46)) = w0 at *
  have HH8 : Hid (∀ i, h i = num ((F.drop (1 + 8 * i)).take 8)) := Lib.hid (by rw [hh]; exact fun _ => rfl)
  obtain ⟨R0, hR0⟩ : ∃ R0, R0 = w.heap.size := ⟨_, rfl⟩
  rw [← hR0] at hst ⊢
  have HR0 := Lib.hid hR0
  clear hcl hh k1 k2 hR0
  have HX : Hid (∀ k m, k + m = 25 → 8 ≤ m → ∀ wr, w.grownBy wr none → Calls Tryd.prog 40 #[.slice (some ⟨b, o + k, none⟩) m (cap - k)] wr fun e w' => e = .returned (.int .u64 (num ((F.drop k).take 8) : Nat)) ∧ wr.grownBy w' none) := Lib.hid (fun k m hkm hm wr hg =>
    cnumber ((HH.out.grown hg).drop k m (cap - k) (by omega) (by omega) rfl) (by rw [List.length_drop]; omega))
  have hcap : 25 ≤ cap := by omega
  clear h1
  go_loopw [5, 11] (fun jv iv wr => ∃ j : Nat, j ≤ 3 ∧ iv = .int .i64 (j : Int) ∧ RdMid w wr R0 h j) (fun _ iv _ => 3 - (intOf iv).toNat)
  case atStart => exact ⟨0, by decide, rfl, hst⟩
  case round =>
    obtain ⟨j, hj, rfl, hm⟩ := hrel
    clear hst
    have q1 : ¬ ((cap : Nat) : Int) < 25 := by omega
    have HB3 := Lib.hid hm.bw
    by_cases hlt : j < 3
    · match j, hlt with
      | 0, _ =>
        have CN := Lib.hid (HX.out 1 24 (by decide) (by decide) wr hm.g)
        have HM := Lib.hid hm
        have hy := Lib.hid (HH8.out 0)
        clear hm
        generalize num ((F.drop 1).take 8) = y at *
        go_wp2_with fail
        refine CN.out.mono ?_
        rintro e w7 ⟨rfl, g7⟩
        have HM7 := Lib.hid (HM.out.kept g7)
        have hmf := HM7.out.af 0
        have hma := HM7.out.a 0 (by decide)
        clear g7 CN HM
        go_wp2
        go_roundw
        case rel => exact ⟨1, by decide, by go_num, HM7.out.set (by decide) y hy.out.symm⟩
        case measure => simp [intOf]
      | 1, _ =>
        have CN := Lib.hid (HX.out 9 16 (by decide) (by decide) wr hm.g)
        have HM := Lib.hid hm
        have hy := Lib.hid (HH8.out 1)
        clear hm
        generalize num ((F.drop 9).take 8) = y at *
        go_wp2_with fail
        refine CN.out.mono ?_
        rintro e w7 ⟨rfl, g7⟩
        have HM7 := Lib.hid (HM.out.kept g7)
        have hmf := HM7.out.af 1
        have hma := HM7.out.a 1 (by decide)
        clear g7 CN HM
        go_wp2
        go_roundw
        case rel => exact ⟨2, by decide, by go_num, HM7.out.set (by decide) y hy.out.symm⟩
        case measure => simp [intOf]
      | 2, _ =>
        have CN := Lib.hid (HX.out 17 8 (by decide) (by decide) wr hm.g)
        have HM := Lib.hid hm
        have hy := Lib.hid (HH8.out 2)
        clear hm
        generalize num ((F.drop 17).take 8) = y at *
        go_wp2_with fail
        refine CN.out.mono ?_
        rintro e w7 ⟨rfl, g7⟩
        have HM7 := Lib.hid (HM.out.kept g7)
        have hmf := HM7.out.af 2
        have hma := HM7.out.a 2 (by decide)
        clear g7 CN HM
        go_wp2
        go_roundw
        case rel => exact ⟨3, by decide, by go_num, HM7.out.set (by decide) y hy.out.symm⟩
        case measure => simp [intOf]
    · obtain rfl : j = 3 := by omega
      have a0 := hm.a 0 (by decide)
      have a1 := hm.a 1 (by decide)
      have a2 := hm.a 2 (by decide)
      rw [if_pos (by decide)] at a0 a1 a2
      have x0 := (HH.out.grown hm.g).at (by omega)
      obtain ⟨b', o', eb, _, _, _, hb5, hc5⟩ := x0
      injection eb with eb
      injection eb with e1 e2
      subst e1 e2
      have c0 := hc5 0 (by omega)
      rw [Nat.add_zero] at c0
      have hF0 : F[0] < 256 := hB _ (List.getElem_mem _)
      have hw : IntKind.i64.wrap ((F[0] : Nat) : Int) = ((F[0] : Nat) : Int) := by rw [IntKind.wrap_i64]; omega
      generalize F[0] = f0 at *
      generalize h 0 = y0 at *
      generalize h 1 = y1 at *
      generalize h 2 = y2 at *
      clear hc5
      have HM := Lib.hid hm
      have hsz := hm.sz
      have hne1 : R0 + 1 ≠ wr.heap.size := by omega
      have hne2 : b ≠ wr.heap.size := by omega
      have hne3 : R0 + 1 < wr.heap.size + 1 := by omega
      have hne4 : b < wr.heap.size + 1 := by omega
      clear hm
      go_wp2_with fail
      go_region
      have k8 : wr.grownBy ((wr.alloc (.cells #[.int .i64 (f0 : Int), .int .u64 (y0 : Int), .int .u64 (y1 : Int), .int .u64 (y2 : Int)] 24)).drew) none := (World.grownBy_alloc wr _ none).trans ⟨rfl, rfl, rfl, Nat.le_refl _, fun _ _ _ => rfl⟩
      have xb : ∀ i, ((wr.alloc (.cells #[.int .i64 (f0 : Int), .int .u64 (y0 : Int), .int .u64 (y1 : Int), .int .u64 (y2 : Int)] 24)).drew).cell? ⟨wr.heap.size, i, none⟩ = (#[Value.int .i64 (f0 : Int), .int .u64 (y0 : Int), .int .u64 (y1 : Int), .int .u64 (y2 : Int)])[i]? := fun i => World.cell?_alloc_new ..
      have x0 := xb 0
      have x1 := xb 1
      have x2 := xb 2
      have x3 := xb 3
      simp only [List.getElem?_toArray, List.getElem?_cons_zero, List.getElem?_cons_succ] at x0 x1 x2 x3
      have hs8 : wr.heap.size < ((wr.alloc (.cells #[.int .i64 (f0 : Int), .int .u64 (y0 : Int), .int .u64 (y1 : Int), .int .u64 (y2 : Int)] 24)).drew).heap.size := by show _ < (wr.alloc _).heap.size; simp
      have HM8 := Lib.hid (HM.out.kept k8)
      have HT8 := (HT.kept HM8.out.g)
      have hsm := clOf_sm hB hl
      rw [HCL.out] at hsm
      have CR := Lib.hid (cright (w := (wr.alloc (.cells #[.int .i64 (f0 : Int), .int .u64 (y0 : Int), .int .u64 (y1 : Int), .int .u64 (y2 : Int)] 24)).drew) _ hsm HT8)
      unfold Cl.val at CR
      simp only at CR
      generalize (wr.alloc (.cells #[.int .i64 (f0 : Int), .int .u64 (y0 : Int), .int .u64 (y1 : Int), .int .u64 (y2 : Int)] 24)).drew = w8 at *
      clear xb k8 a0 a1 a2 c0 HM hne1 hne2 hne3 hne4
      go_wp2_with fail
      refine CR.out.mono ?_
      rintro e w9 ⟨rfl, g9⟩
      have H9 := HM8.out.kept g9
      replace x0 := (g9.cell_far ⟨wr.heap.size, 0, none⟩ hs8 (by simp)).trans x0
      replace x1 := (g9.cell_far ⟨wr.heap.size, 1, none⟩ hs8 (by simp)).trans x1
      replace x2 := (g9.cell_far ⟨wr.heap.size, 2, none⟩ hs8 (by simp)).trans x2
      replace x3 := (g9.cell_far ⟨wr.heap.size, 3, none⟩ hs8 (by simp)).trans x3
      have r0 := H9.r0
      have r1 := H9.r1
      have r2 := H9.r2
      have r3 := H9.r3
      have z0 := H9.rf 0
      have z1 := H9.rf 1
      have z2 := H9.rf 2
      have z3 := H9.rf 3
      have G9 := Lib.hid H9.g
      have HB9 := Lib.hid H9.bw
      have hne : R0 ≠ wr.heap.size := by omega
      clear H9 g9 CR HM8 HT8 hs8 hsm
      obtain ⟨ok, hok⟩ : ∃ ok, ok = okC ⟨(f0 : Int), y0, y1, y2⟩ := ⟨_, rfl⟩
      rw [← hok]
      cases ok with
      | false =>
        have hRf := HV.out.trans (crV_no (fun _ => by rw [HCL.out]; exact hok.symm))
        subst hRf
        clear hok
        go_wp2
        have ko : ∀ (i : Nat) (w5 : World) (v5 : Value), Only R0 (R0 + 1) w5 (w5.setCell ⟨R0, i, none⟩ v5) := fun i w5 v5 => Only.set w5 ⟨R0, i, none⟩ v5 (Nat.le_refl _) (Nat.lt_succ_self _)
        exact bodyPost_ret (v := .tuple #[.agg #[.int .i64 0, .int .u64 0, .int .u64 0, .int .u64 0], .bool false]) (by simp [results, Tryd.results25, go_sem, r0, r1, r2, r3]) rfl
          ⟨rfl, Only.on G9.out ((((ko 0 _ _).trans (ko 1 _ _)).trans (ko 2 _ _)).trans (ko 3 _ _)) HB9.out⟩
      | true =>
        have hRt := HV.out.trans (crV_ok hl (by rw [HCL.out]; exact hok.symm))
        rw [HCL.out] at hRt
        unfold Cl.val at hRt
        simp only at hRt
        subst hRt
        clear hok
        go_wp2
        have ko : ∀ (i : Nat) (w5 : World) (v5 : Value), Only R0 (R0 + 1) w5 (w5.setCell ⟨R0, i, none⟩ v5) := fun i w5 v5 => Only.set w5 ⟨R0, i, none⟩ v5 (Nat.le_refl _) (Nat.lt_succ_self _)
        exact bodyPost_ret (v := .tuple #[.agg #[.int .i64 (f0 : Int), .int .u64 (y0 : Int), .int .u64 (y1 : Int), .int .u64 (y2 : Int)], .bool true]) (by simp [results, Tryd.results25, go_sem, r0, r1, r2, r3]) rfl
          ⟨rfl, Only.on G9.out ((((ko 0 _ _).trans (ko 1 _ _)).trans (ko 2 _ _)).trans (ko 3 _ _)) HB9.out⟩
end Go.Proofs.YtcnojgkolpdomaaDoor
