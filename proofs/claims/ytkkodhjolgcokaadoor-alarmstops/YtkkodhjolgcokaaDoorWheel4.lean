/-
  Contracts of package wheel, over this seat's translation: Set.
-/
import Derived.Test.YtkkodhjolgcokaaDoorWheel3
import Derived.Deep.RegionHeld3
namespace Go.Proofs.YtkkodhjolgcokaaDoor
open Go.RowKit Go.Lib
set_option maxRecDepth 100000

section
variable {w w' : World} {wb ab lb n now : Nat} {A : Nat → Nat × Nat} {L : Nat → List Nat} {C : Nat → Nat}
/-- The list on which an alarm for a time goes. -/
def slotN (now t : Nat) : Nat := rowN now t * 64 + digN (rowN now t) t
theorem slotN_lt {now t : Nat} (h : rowN now t ≤ 11) : slotN now t < 768 := by
  have := digN_lt (rowN now t) t
  unfold slotN
  omega
theorem slotN_row (now t : Nat) : slotN now t / 64 = rowN now t := by
  have := digN_lt (rowN now t) t
  unfold slotN
  omega

set_option maxHeartbeats 4000000 in
theorem wset_no (k : Int) (t u : Nat) (H : WhMem w wb ab lb n now A L C) (ht : t < 18446744073709551616) (hb : Lib.bitLen (t ^^^ now) ≤ 64) (hk : (k < 0 ∨ (n : Int) ≤ k) ∨ ∃ j, j < 768 ∧ k.toNat ∈ L j) :
    Calls Tryd.prog 25 #[.pointer (some ⟨wb, 0, none⟩), .int .i64 k, .int .u64 t, .int .u64 u] w fun e w' => e = .returned (.bool false) ∧ w.grownBy w' none := by
  have hrl := rowN_le now t ht H.bd.1 hb
  have CR := Lib.hid (rowOf_any wb now t w H.c0 ht H.bd.1 hb)
  have hr12 : rowN now t ≤ 12 := by omega
  have CD := Lib.hid fun v => digit_any (rowN now t) t v hrl ht
  have CL : Hid (∀ v : World, Calls Tryd.prog 44 #[.int .i64 (rowN now t : Nat), .int .i64 (digN (rowN now t) t : Nat)] v fun e w' => e = .returned (.int .i64 (slotN now t : Nat)) ∧ v = w') := Lib.hid fun v => listOf_any (rowN now t) (digN (rowN now t) t) v hr12 (digN_lt _ _)
  have kd : w.grownBy w.drew none := ⟨rfl, rfl, rfl, Nat.le_refl _, fun _ _ _ => rfl⟩
  have CP : Hid (Calls Tryd.prog 43 #[.pointer (some ⟨lb + 4, 0, none⟩), .int .i64 (slotN now t : Nat), .int .i64 k] w.drew fun e w' => e = .returned (.bool false) ∧ w.drew = w') := Lib.hid (push_no _ k (H.kept kd).links (Or.inr hk))
  have c2 := H.c2
  have KD := Lib.hid kd
  clear H kd hk
  generalize slotN now t = sl at *
  generalize digN (rowN now t) t = dd at *
  generalize rowN now t = rr at *
  go_enter Tryd.func25, Tryd.ntmps25
  go_wp2_with fail
  refine (CR.out).mono ?_
  rintro e w' ⟨rfl, rfl⟩
  have c2d : w.drew.cell? ⟨wb, 2, none⟩ = some (.pointer (some ⟨lb + 4, 0, none⟩)) := c2
  go_upto_region 2 with fail
  go_region_held3 (fun w' => w'.cell? ⟨wb, 2, none⟩ = some (.pointer (some ⟨lb + 4, 0, none⟩))) (exact c2d)
    (first
      | (go_at_call 45; with_reducible refine (CD.out _).mono ?_; rintro e w' ⟨rfl, rfl⟩)
      | (go_at_call 44; with_reducible refine (CL.out _).mono ?_; rintro e w' ⟨rfl, rfl⟩)
      | (go_at_call 43; with_reducible refine CP.out.mono ?_; rintro e w' ⟨rfl, rfl⟩))
  go_wp2
  go_ret
  exact ⟨rfl, KD.out⟩

set_option maxHeartbeats 4000000 in
theorem wset_ok (k t u lo hi : Nat) (H : WhMem w wb ab lb n now A L C) (ht : t < 18446744073709551616) (hu : u < 18446744073709551616) (hb : Lib.bitLen (t ^^^ now) ≤ 64) (hk : k < n) (hf : ∀ j, j < 768 → k ∉ L j) (hC : C (rowN now t) < 4096) (hlo : lo ≤ wb ∧ lo ≤ ab ∧ lo ≤ lb) (hhi : wb < hi ∧ ab < hi ∧ lb + 5 ≤ hi) :
    Calls Tryd.prog 25 #[.pointer (some ⟨wb, 0, none⟩), .int .i64 k, .int .u64 t, .int .u64 u] w fun e w' => e = .returned (.bool true) ∧ Only lo hi w w' ∧ WhMem w' wb ab lb n now (upA A k (t, u)) (upL L (slotN now t) (L (slotN now t) ++ [k])) (upN C (rowN now t) (C (rowN now t) + 1)) := by
  have hrl := rowN_le now t ht H.bd.1 hb
  have CR := Lib.hid (rowOf_any wb now t w H.c0 ht H.bd.1 hb)
  have hr12 : rowN now t ≤ 12 := by omega
  have CD := Lib.hid fun v => digit_any (rowN now t) t v hrl ht
  have CL : Hid (∀ v : World, Calls Tryd.prog 44 #[.int .i64 (rowN now t : Nat), .int .i64 (digN (rowN now t) t : Nat)] v fun e w' => e = .returned (.int .i64 (slotN now t : Nat)) ∧ v = w') := Lib.hid fun v => listOf_any (rowN now t) (digN (rowN now t) t) v hr12 (digN_lt _ _)
  have kd : w.grownBy w.drew none := ⟨rfl, rfl, rfl, Nat.le_refl _, fun _ _ _ => rfl⟩
  have CP := Lib.hid (push_ok (slotN now t) k (H.kept kd).links (slotN_lt hrl) hk hf)
  have c2 := H.c2
  have HK := Lib.hid (H.kept kd)
  have KD := Lib.hid kd
  have q1 : (k : Int) < (n : Int) := by omega
  have q0 : ¬ (k : Int) < 0 := by omega
  have d2 := H.d.2.1
  have hwd : wb < w.drew.heap.size := H.l.1
  clear H kd hf
  generalize slotN now t = sl at *
  generalize digN (rowN now t) t = dd at *
  generalize rowN now t = rr at *
  go_enter Tryd.func25, Tryd.ntmps25
  go_wp2_with fail
  refine (CR.out).mono ?_
  rintro e w' ⟨rfl, rfl⟩
  have c2d : w.drew.cell? ⟨wb, 2, none⟩ = some (.pointer (some ⟨lb + 4, 0, none⟩)) := c2
  go_upto_region 2 with fail
  go_region_held3 (fun w' => w'.cell? ⟨wb, 2, none⟩ = some (.pointer (some ⟨lb + 4, 0, none⟩))) (first | exact c2d | exact c2e)
    (first
      | (go_at_call 45; with_reducible refine (CD.out _).mono ?_; rintro e w' ⟨rfl, rfl⟩)
      | (go_at_call 44; with_reducible refine (CL.out _).mono ?_; rintro e w' ⟨rfl, rfl⟩)
      | (go_at_call 43; with_reducible refine CP.out.mono ?_; rintro e w1 ⟨rfl, k1, K1⟩; have c2e := (k1.cell ⟨wb, 2, none⟩ hwd d2).trans c2d))
  have H1 := HK.out.setL k1 K1
  have c1 := H1.c1
  obtain ⟨b0, b1⟩ := H1.a0 k hk
  have f0 := H1.fa (k * 2)
  have b1' : (w1.setCell ⟨ab, k * 2, none⟩ (.int .u64 (t : Nat))).cell? ⟨ab, k * 2 + 1, none⟩ = some (.int .u64 ((A k).2 : Nat)) := (set_farW _ _ _ _ _ _ (Or.inr (by omega))).trans b1
  have f1 : (w1.setCell ⟨ab, k * 2, none⟩ (.int .u64 (t : Nat))).frozen? ⟨ab, k * 2 + 1, none⟩ = false := (World.frozen?_setCell ..).trans (H1.fa _)
  have HH2 := Lib.hid (H1.setA k t u hk ht hu)
  have K1' := Lib.hid k1
  clear H1 CD CL CP CR K1 k1 c2 c2d c2e
  go_upto_region 5 with fail
  have O2 : Hid (Only ab (ab + 1) w1 ((w1.setCell ⟨ab, k * 2, none⟩ (.int .u64 (t : Nat))).setCell ⟨ab, k * 2 + 1, none⟩ (.int .u64 (u : Nat)))) := Lib.hid ((Only.set (lo := ab) (hi := ab + 1) w1 ⟨ab, k * 2, none⟩ _ (Nat.le_refl _) (Nat.lt_succ_self _)).trans (Only.set (lo := ab) (hi := ab + 1) _ ⟨ab, k * 2 + 1, none⟩ _ (Nat.le_refl _) (Nat.lt_succ_self _)))
  clear b0 b1 b1' f0 f1 c1
  generalize (w1.setCell ⟨ab, k * 2, none⟩ (.int .u64 (t : Nat))).setCell ⟨ab, k * 2 + 1, none⟩ (.int .u64 (u : Nat)) = w2 at *
  refine wp_region_still_tail 10 (by kernel_rfl) (by kernel_rfl) ?_
  simp only [List.take_succ_cons, List.take_zero, List.drop_succ_cons, List.drop_zero]
  change wpStill _ _ w2.drew (fun a' => wpList _ _ _ _ a' w2.drew) _ _
  have kd : w2.grownBy w2.drew none := ⟨rfl, rfl, rfl, Nat.le_refl _, fun _ _ _ => rfl⟩
  have H3 := HH2.out.kept kd
  have O3 := Lib.hid (O2.out.trans (Only.of_none kd))
  clear kd HH2 O2
  generalize w2.drew = w3 at *
  have hr : rr < 12 := by omega
  have g1 := H3.c3 rr hr
  have g2 := H3.fw (3 + rr)
  have HH3 := Lib.hid H3
  have q4 : (rr : Int) < 12 := by omega
  have q6 : IntKind.i64.wrap (((C rr : Nat) : Int) + 1) = ((C rr + 1 : Nat) : Int) := by rw [IntKind.wrap_i64]; omega
  clear H3
  repeat still_step
  refine wpStill_nil ?_
  go_wp2
  go_ret
  refine ⟨rfl, ?_, ?_⟩
  · have oC : Only wb (wb + 1) w3 (w3.setCell ⟨wb, 3 + rr, none⟩ (.int .i64 ((C rr + 1 : Nat) : Int))) := Only.set (lo := wb) (hi := wb + 1) w3 ⟨wb, 3 + rr, none⟩ _ (Nat.le_refl _) (Nat.lt_succ_self _)
    exact (((Only.of_none KD.out).trans (K1'.out.wider (by omega) (by omega))).trans (O3.out.wider (by omega) (by omega))).trans (oC.wider (by omega) (by omega))
  · exact HH3.out.setC rr (C rr + 1) hr
end
end Go.Proofs.YtkkodhjolgcokaaDoor
