/-
  Contracts of package wheel, over this seat's translation: Unset.
-/
import Derived.Test.YtkkodhjolgcokaaDoorWheel2
import Derived.StillTailTactics
namespace Go.Proofs.YtkkodhjolgcokaaDoor
open Go.RowKit Go.Lib
set_option maxRecDepth 100000

def upA (A : Nat → Nat × Nat) (k : Nat) (v : Nat × Nat) : Nat → Nat × Nat := fun i => if i = k then v else A i
theorem set_farW (w : World) (b j b' j' : Nat) (v : Value) (h : b' ≠ b ∨ j' ≠ j) : (w.setCell ⟨b, j, none⟩ v).cell? ⟨b', j', none⟩ = w.cell? ⟨b', j', none⟩ :=
  World.cell?_setCell_other _ _ _ _ (by intro e; injection e with e1 e2; omega)

section
variable {w w' : World} {wb ab lb n now : Nat} {A : Nat → Nat × Nat} {L : Nat → List Nat} {C : Nat → Nat}
/-- An alarm's cells are set. -/
theorem WhMem.setA (H : WhMem w wb ab lb n now A L C) (k x y : Nat) (hk : k < n) (hx : x < 18446744073709551616) (hy : y < 18446744073709551616) :
    WhMem ((w.setCell ⟨ab, k * 2, none⟩ (.int .u64 (x : Nat))).setCell ⟨ab, k * 2 + 1, none⟩ (.int .u64 (y : Nat))) wb ab lb n now (upA A k (x, y)) L C := by
  obtain ⟨d1, d2, d3⟩ := H.d
  have o : Only ab (ab + 1) w ((w.setCell ⟨ab, k * 2, none⟩ (.int .u64 (x : Nat))).setCell ⟨ab, k * 2 + 1, none⟩ (.int .u64 (y : Nat))) := (Only.set (lo := ab) (hi := ab + 1) w ⟨ab, k * 2, none⟩ _ (Nat.le_refl _) (Nat.lt_succ_self _)).trans (Only.set (lo := ab) (hi := ab + 1) _ ⟨ab, k * 2 + 1, none⟩ _ (Nat.le_refl _) (Nat.lt_succ_self _))
  have hw : wb < ab ∨ ab + 1 ≤ wb := by omega
  refine ⟨(o.cell ⟨wb, 0, none⟩ H.l.1 hw).trans H.c0, (o.cell ⟨wb, 1, none⟩ H.l.1 hw).trans H.c1, (o.cell ⟨wb, 2, none⟩ H.l.1 hw).trans H.c2, fun r hr => (o.cell ⟨wb, 3 + r, none⟩ H.l.1 hw).trans (H.c3 r hr), fun j => (o.frozen ⟨wb, j, none⟩ H.l.1 hw).trans (H.fw j), fun q hq => ?_, fun j => (World.frozen?_setCell ..).trans ((World.frozen?_setCell ..).trans (H.fa j)), H.links.kept o (by omega), ⟨H.bd.1, fun q hq => ?_⟩, H.d, ⟨Nat.lt_of_lt_of_le H.l.1 o.size, Nat.lt_of_lt_of_le H.l.2 o.size⟩⟩
  · by_cases e : q = k
    · subst e
      simp only [upA, if_true]
      exact ⟨(set_farW _ _ _ _ _ _ (Or.inr (by omega))).trans (World.cell?_setCell_same _ _ _ (H.a0 q hq).1), World.cell?_setCell_same _ _ _ ((set_farW _ _ _ _ _ _ (Or.inr (by omega))).trans (H.a0 q hq).2)⟩
    · simp only [upA, e, if_false]
      exact ⟨(set_farW _ _ _ _ _ _ (Or.inr (by omega))).trans ((set_farW _ _ _ _ _ _ (Or.inr (by omega))).trans (H.a0 q hq).1), (set_farW _ _ _ _ _ _ (Or.inr (by omega))).trans ((set_farW _ _ _ _ _ _ (Or.inr (by omega))).trans (H.a0 q hq).2)⟩
  · by_cases e : q = k
    · simp only [upA, e, if_true]; exact ⟨hx, hy⟩
    · simp only [upA, e, if_false]; exact H.bd.2 q hq
/-- A count is set. -/
theorem WhMem.setC (H : WhMem w wb ab lb n now A L C) (r c : Nat) (hr : r < 12) : WhMem (w.setCell ⟨wb, 3 + r, none⟩ (.int .i64 (c : Nat))) wb ab lb n now A L (upN C r c) := by
  obtain ⟨d1, d2, d3⟩ := H.d
  have o : Only wb (wb + 1) w (w.setCell ⟨wb, 3 + r, none⟩ (.int .i64 (c : Nat))) := Only.set (lo := wb) (hi := wb + 1) w ⟨wb, 3 + r, none⟩ _ (Nat.le_refl _) (Nat.lt_succ_self _)
  have ha : ab < wb ∨ wb + 1 ≤ ab := by omega
  refine ⟨(set_farW _ _ _ _ _ _ (Or.inr (by omega))).trans H.c0, (set_farW _ _ _ _ _ _ (Or.inr (by omega))).trans H.c1, (set_farW _ _ _ _ _ _ (Or.inr (by omega))).trans H.c2, fun q hq => ?_, fun j => (World.frozen?_setCell ..).trans (H.fw j), fun q hq => ⟨(o.cell ⟨ab, q * 2, none⟩ H.l.2 ha).trans (H.a0 q hq).1, (o.cell ⟨ab, q * 2 + 1, none⟩ H.l.2 ha).trans (H.a0 q hq).2⟩, fun j => (o.frozen ⟨ab, j, none⟩ H.l.2 ha).trans (H.fa j), H.links.kept o (by omega), H.bd, H.d, ⟨Nat.lt_of_lt_of_le H.l.1 o.size, Nat.lt_of_lt_of_le H.l.2 o.size⟩⟩
  by_cases e : q = r
  · subst e; rw [upN_same]; exact World.cell?_setCell_same _ _ _ (H.c3 q hq)
  · rw [upN_other _ _ _ _ e]; exact (set_farW _ _ _ _ _ _ (Or.inr (by omega))).trans (H.c3 q hq)
/-- The links have turned. -/
theorem WhMem.setL {L' : Nat → List Nat} (H : WhMem w wb ab lb n now A L C) (k : Only lb (lb + 5) w w') (K : LinksAt w' lb n 768 L') : WhMem w' wb ab lb n now A L' C := by
  obtain ⟨d1, d2, d3⟩ := H.d
  exact ⟨(k.cell ⟨wb, 0, none⟩ H.l.1 d2).trans H.c0, (k.cell ⟨wb, 1, none⟩ H.l.1 d2).trans H.c1, (k.cell ⟨wb, 2, none⟩ H.l.1 d2).trans H.c2, fun r hr => (k.cell ⟨wb, 3 + r, none⟩ H.l.1 d2).trans (H.c3 r hr), fun j => (k.frozen ⟨wb, j, none⟩ H.l.1 d2).trans (H.fw j), fun q hq => ⟨(k.cell ⟨ab, q * 2, none⟩ H.l.2 d3).trans (H.a0 q hq).1, (k.cell ⟨ab, q * 2 + 1, none⟩ H.l.2 d3).trans (H.a0 q hq).2⟩, fun j => (k.frozen ⟨ab, j, none⟩ H.l.2 d3).trans (H.fa j), K, H.bd, H.d, ⟨Nat.lt_of_lt_of_le H.l.1 k.size, Nat.lt_of_lt_of_le H.l.2 k.size⟩⟩

set_option maxHeartbeats 1000000 in
theorem wunset_no (k : Int) (H : WhMem w wb ab lb n now A L C) (hk : ∀ i, i < 768 → ∀ x ∈ L i, (x : Int) ≠ k) :
    Calls Tryd.prog 24 #[.pointer (some ⟨wb, 0, none⟩), .int .i64 k] w fun e w' => e = .returned (.bool false) ∧ w = w' := by
  have CO := Lib.hid (on_none k H.links hk)
  have c2 := H.c2
  clear H
  go_enter Tryd.func24, Tryd.ntmps24
  go_wp2_with fail
  refine (CO.out).mono ?_
  rintro e w' ⟨rfl, rfl⟩
  go_wp2
  go_ret
  exact ⟨rfl, rfl⟩

set_option maxHeartbeats 4000000 in
theorem wunset_ok (k i lo hi : Nat) (H : WhMem w wb ab lb n now A L C) (hi' : i < 768) (hk : k ∈ L i) (hC : 1 ≤ C (i / 64) ∧ C (i / 64) ≤ 4096) (hlo : lo ≤ wb ∧ lo ≤ ab ∧ lo ≤ lb) (hhi : wb < hi ∧ ab < hi ∧ lb + 5 ≤ hi) :
    Calls Tryd.prog 24 #[.pointer (some ⟨wb, 0, none⟩), .int .i64 k] w fun e w' => e = .returned (.bool true) ∧ Only lo hi w w' ∧ WhMem w' wb ab lb n now (upA A k (0, 0)) (upL L i ((L i).erase k)) (upN C (i / 64) (C (i / 64) - 1)) := by
  have CO := Lib.hid (on_some k i H.links hi' hk)
  have CP := Lib.hid (pull_ok k i H.links hi' hk)
  have hkn := H.links.bound i hi' k hk
  have c2 := H.c2
  have HH := Lib.hid H
  have q1 : (k : Int) < (n : Int) := by omega
  have q0 : ¬ (k : Int) < 0 := by omega
  clear H
  go_enter Tryd.func24, Tryd.ntmps24
  go_wp2_with fail
  refine (CO.out).mono ?_
  rintro e w' ⟨rfl, rfl⟩
  go_wp2_with fail
  refine CP.out.mono ?_
  rintro e w1 ⟨rfl, k1, K1⟩
  have H1 := HH.out.setL k1 K1
  have c1 := H1.c1
  obtain ⟨b0, b1⟩ := H1.a0 k hkn
  have f0 := H1.fa (k * 2)
  have b1' : (w1.setCell ⟨ab, k * 2, none⟩ (.int .u64 0)).cell? ⟨ab, k * 2 + 1, none⟩ = some (.int .u64 ((A k).2 : Nat)) := (set_farW _ _ _ _ _ _ (Or.inr (by omega))).trans b1
  have f1 : (w1.setCell ⟨ab, k * 2, none⟩ (.int .u64 0)).frozen? ⟨ab, k * 2 + 1, none⟩ = false := (World.frozen?_setCell ..).trans (H1.fa _)
  have H2 := H1.setA k 0 0 hkn (by decide) (by decide)
  have HH2 : Hid (WhMem ((w1.setCell ⟨ab, k * 2, none⟩ (.int .u64 0)).setCell ⟨ab, k * 2 + 1, none⟩ (.int .u64 0)) wb ab lb n now (upA A k (0, 0)) (upL L i ((L i).erase k)) C) := Lib.hid H2
  have K1' := Lib.hid k1
  clear H1 H2 CO CP K1 k1 c2
  go_upto_region 6 with fail
  have O2 : Hid (Only ab (ab + 1) w1 ((w1.setCell ⟨ab, k * 2, none⟩ (.int .u64 0)).setCell ⟨ab, k * 2 + 1, none⟩ (.int .u64 0))) := Lib.hid ((Only.set (lo := ab) (hi := ab + 1) w1 ⟨ab, k * 2, none⟩ _ (Nat.le_refl _) (Nat.lt_succ_self _)).trans (Only.set (lo := ab) (hi := ab + 1) _ ⟨ab, k * 2 + 1, none⟩ _ (Nat.le_refl _) (Nat.lt_succ_self _)))
  clear b0 b1 b1' f0 f1 c1
  generalize (w1.setCell ⟨ab, k * 2, none⟩ (.int .u64 0)).setCell ⟨ab, k * 2 + 1, none⟩ (.int .u64 0) = w2 at *
  refine wp_region_still_tail 11 (by kernel_rfl) (by kernel_rfl) ?_
  simp only [List.take_succ_cons, List.take_zero, List.drop_succ_cons, List.drop_zero]
  change wpStill _ _ w2.drew (fun a' => wpList _ _ _ _ a' w2.drew) _ _
  have kd : w2.grownBy w2.drew none := ⟨rfl, rfl, rfl, Nat.le_refl _, fun _ _ _ => rfl⟩
  have H3 := HH2.out.kept kd
  have O3 := Lib.hid (O2.out.trans (Only.of_none kd))
  clear kd HH2 O2
  generalize w2.drew = w3 at *
  have hr : i / 64 < 12 := by omega
  have g1 := H3.c3 (i / 64) hr
  have g2 := H3.fw (3 + i / 64)
  have HH3 := Lib.hid H3
  have q2 : IntKind.i64.wrap ((i : Int) / 64) = (i : Int) / 64 := by rw [IntKind.wrap_i64]; omega
  have q3 : 0 ≤ (i : Int) / 64 := by omega
  have q4 : (i : Int) / 64 < 12 := by omega
  have q5 : ((i : Int) / 64).toNat = i / 64 := by omega
  have q6 : IntKind.i64.wrap (((C (i / 64) : Nat) : Int) - 1) = ((C (i / 64) - 1 : Nat) : Int) := by rw [IntKind.wrap_i64]; omega
  clear H3
  repeat still_step
  refine wpStill_nil ?_
  go_wp2
  go_ret
  refine ⟨rfl, ?_, ?_⟩
  · have oC : Only wb (wb + 1) w3 (w3.setCell ⟨wb, 3 + i / 64, none⟩ (.int .i64 ((C (i / 64) - 1 : Nat) : Int))) := Only.set (lo := wb) (hi := wb + 1) w3 ⟨wb, 3 + i / 64, none⟩ _ (Nat.le_refl _) (Nat.lt_succ_self _)
    exact ((K1'.out.wider (by omega) (by omega)).trans (O3.out.wider (by omega) (by omega))).trans (oC.wider (by omega) (by omega))
  · exact HH3.out.setC (i / 64) (C (i / 64) - 1) hr
end
end Go.Proofs.YtkkodhjolgcokaaDoor
