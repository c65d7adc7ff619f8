/-
  Contracts of package chain, over this seat's translation, told by the lists alone: Push, Pull, All.
-/
import Derived.Test.YtkkodhjolgcokaaDoorChain2
namespace Go.Proofs.YtkkodhjolgcokaaDoor
open Go.RowKit Go.Lib
set_option maxRecDepth 100000

section
variable {w : World} {lo n m : Nat} {L : Nat → List Nat}

set_option maxHeartbeats 1000000 in
theorem push_ok (i k : Nat) (H : LinksAt w lo n m L) (hi : i < m) (hk : k < n) (ho : ∀ j, j < m → k ∉ L j) :
    Calls Tryd.prog 43 #[.pointer (some ⟨lo + 4, 0, none⟩), .int .i64 i, .int .i64 k] w fun e w' => e = .returned (.bool true) ∧ Only lo (lo + 5) w w' ∧ LinksAt w' lo n m (upL L i (L i ++ [k])) := by
  have hfew := H.few i hi
  obtain ⟨bn, bp, bo, bl, N, P, O, H1, H2⟩ := H
  have hO : O k = -1 := by
    rcases H2.offs k hk with h | ⟨h1, h2⟩
    · exact h
    · obtain ⟨j, hj⟩ := Int.eq_ofNat_of_zero_le h1
      have hjm : j < m := by omega
      exact absurd ((H2.on k j hk hjm).2 hj) (ho j hjm)
  have HG := Lib.hid (good_push H2 i k hi hk hO)
  obtain ⟨hP, hla⟩ := good_last H2 i hi
  generalize lastOf n i (L i) = la at *
  have c1 := isList_any i H1
  rw [isIn_yes hi] at c1
  have c2 := isNumber_any k H1
  rw [isIn_yes hk] at c2
  have C1 := Lib.hid c1
  have C2 := Lib.hid c2
  have C3 := Lib.hid (knot_any i H1 hi)
  have C4 := Lib.hid (join_any la k H1 hla (by omega))
  have h2 := H1.c2
  have h3 := H1.co k hk
  rw [hO] at h3
  have h4 := H1.hn
  have h5 := H1.hm
  have h6 := H1.c1
  have h7 := H1.cp (n + i) (by omega)
  rw [hP] at h7
  clear H1 H2 c1 c2 hO hP ho
  go_enter Tryd.func43, Tryd.ntmps43
  go_wp2_with fail
  refine (C1.out).mono ?_
  rintro e w' ⟨rfl, rfl⟩
  go_wp2_with fail
  refine (C2.out).mono ?_
  rintro e w' ⟨rfl, rfl⟩
  go_wp2_with fail
  refine (C3.out).mono ?_
  rintro e w' ⟨rfl, rfl⟩
  have hx : ((n + i : Nat) : Int) < ((n + m : Nat) : Int) := by omega
  go_wp2_with fail
  refine C4.out.mono ?_
  rintro e w1 ⟨rfl, k1, M1⟩
  clear h2 h3 h6 h7 C1 C2 C3 C4
  have C5 := Lib.hid (join_any k (n + i) M1 (by omega) (by omega))
  clear M1
  go_wp2_with fail
  refine C5.out.mono ?_
  rintro e w2 ⟨rfl, k2, M2⟩
  clear C5
  have g2 := M2.c2
  have g3 := M2.co k hk
  have g4 := M2.fo k hk
  have M3 := M2.setO k i hk
  have g5 := M3.c3
  have g6 := M3.cl i hi
  have g7 := M3.fl i hi
  have M4 := Lib.hid (M3.setZ i ((L i).length + 1) hi)
  have K3 := Lib.hid (Only.set (lo := lo) (hi := lo + 5) w2 ⟨bo, k, none⟩ (.int .i64 (i : Nat)) M2.ro.1 (by have := M2.ro.2; simp; omega))
  have K4 := Lib.hid (Only.set (lo := lo) (hi := lo + 5) (w2.setCell ⟨bo, k, none⟩ (.int .i64 (i : Nat))) ⟨bl, i, none⟩ (.int .i64 ((L i).length + 1 : Nat)) M2.rl.1 (by have := M2.rl.2; simp; omega))
  have HL := Lib.hid (show (fun j => (upL L i (L i ++ [k]) j).length) = upN (fun i => (L i).length) i ((L i).length + 1) from by
    funext j
    by_cases e : j = i
    · subst e; rw [upL_same, upN_same]; simp
    · rw [upL_other _ _ _ _ e, upN_other _ _ _ _ e])
  have K2 := Lib.hid (k1.trans k2)
  clear M2 M3 k1 k2
  generalize hz : (L i).length = z at *
  have HZ := Lib.hid hz
  clear hz
  go_wp2
  go_ret
  refine ⟨rfl, (K2.out.trans K3.out).trans K4.out, bn, bp, bo, bl, _, _, _, ?_, HG.out⟩
  rw [HL.out]
  exact M4.out

set_option maxHeartbeats 1000000 in
theorem push_no (i k : Int) (H : LinksAt w lo n m L) (h : (i < 0 ∨ (m : Int) ≤ i) ∨ (k < 0 ∨ (n : Int) ≤ k) ∨ ∃ j, j < m ∧ k.toNat ∈ L j) :
    Calls Tryd.prog 43 #[.pointer (some ⟨lo + 4, 0, none⟩), .int .i64 i, .int .i64 k] w fun e w' => e = .returned (.bool false) ∧ w = w' := by
  obtain ⟨bn, bp, bo, bl, N, P, O, H1, H2⟩ := H
  by_cases hi : i < 0 ∨ (m : Int) ≤ i
  · have c1 := isList_any i H1
    rw [isIn_no hi] at c1
    have C1 := Lib.hid c1
    clear H1 H2 h hi c1
    go_enter Tryd.func43, Tryd.ntmps43
    go_wp2_with fail
    refine (C1.out).mono ?_
    rintro e w' ⟨rfl, rfl⟩
    go_wp2
    go_ret
    exact ⟨rfl, rfl⟩
  · obtain ⟨i, rfl⟩ := Int.eq_ofNat_of_zero_le (show 0 ≤ i by omega)
    have him : i < m := by omega
    have c1 := isList_any i H1
    rw [isIn_yes him] at c1
    have C1 := Lib.hid c1
    by_cases hk : k < 0 ∨ (n : Int) ≤ k
    · have c2 := isNumber_any k H1
      rw [isIn_no hk] at c2
      have C2 := Lib.hid c2
      clear H1 H2 h hi c1 c2 hk
      go_enter Tryd.func43, Tryd.ntmps43
      go_wp2_with fail
      refine (C1.out).mono ?_
      rintro e w' ⟨rfl, rfl⟩
      go_wp2_with fail
      refine (C2.out).mono ?_
      rintro e w' ⟨rfl, rfl⟩
      go_wp2
      go_ret
      exact ⟨rfl, rfl⟩
    · obtain ⟨k, rfl⟩ := Int.eq_ofNat_of_zero_le (show 0 ≤ k by omega)
      have hkn : k < n := by omega
      have c2 := isNumber_any k H1
      rw [isIn_yes hkn] at c2
      have C2 := Lib.hid c2
      obtain ⟨j, hj, hmem⟩ : ∃ j, j < m ∧ k ∈ L j := by
        rcases h with h | h | h
        · exact absurd h hi
        · exact absurd h hk
        · simpa using h
      have hO := (H2.on k j hkn hj).1 hmem
      have h2 := H1.c2
      have h3 := H1.co k hkn
      rw [hO] at h3
      have h4 := H1.hn
      have hne : ((j : Int) != -1) = true := by rw [bne_iff_ne]; omega
      clear H1 H2 h hi c1 c2 hk hmem hO
      go_enter Tryd.func43, Tryd.ntmps43
      go_wp2_with fail
      refine (C1.out).mono ?_
      rintro e w' ⟨rfl, rfl⟩
      go_wp2_with fail
      refine (C2.out).mono ?_
      rintro e w' ⟨rfl, rfl⟩
      go_wp2
      go_ret
      exact ⟨rfl, rfl⟩

theorem pull_no (k : Int) (H : LinksAt w lo n m L) (hk : ∀ i, i < m → ∀ x ∈ L i, (x : Int) ≠ k) :
    Calls Tryd.prog 41 #[.pointer (some ⟨lo + 4, 0, none⟩), .int .i64 k] w fun e w' => e = .returned (.bool false) ∧ w = w' := by
  have C := Lib.hid (on_none k H hk)
  clear H hk
  go_enter Tryd.func41, Tryd.ntmps41
  go_wp2_with fail
  refine (C.out).mono ?_
  rintro e w' ⟨rfl, rfl⟩
  go_wp2
  go_ret
  exact ⟨rfl, rfl⟩

set_option maxHeartbeats 1000000 in
theorem pull_ok (k i : Nat) (H : LinksAt w lo n m L) (hi : i < m) (hk : k ∈ L i) :
    Calls Tryd.prog 41 #[.pointer (some ⟨lo + 4, 0, none⟩), .int .i64 k] w fun e w' => e = .returned (.bool true) ∧ Only lo (lo + 5) w w' ∧ LinksAt w' lo n m (upL L i ((L i).erase k)) := by
  have hfew := H.few i hi
  have C := Lib.hid (on_some k i H hi hk)
  obtain ⟨bn, bp, bo, bl, N, P, O, H1, H2⟩ := H
  have hkn := H2.bound i hi k hk
  obtain ⟨hp, hq, hg⟩ := good_pull H2 i k hi hkn ((H2.on k i hkn hi).1 hk)
  have HG := Lib.hid hg
  have HL := Lib.hid (show (fun j => (upL L i ((L i).erase k) j).length) = upN (fun i => (L i).length) i ((L i).length - 1) from by
    funext j
    by_cases e : j = i
    · subst e; rw [upL_same, upN_same, List.length_erase_of_mem hk]
    · rw [upL_other _ _ _ _ e, upN_other _ _ _ _ e])
  have hz1 : 0 < (L i).length := List.length_pos_of_mem hk
  have HM := Lib.hid H1.drew
  clear H2 hk hg H1
  go_enter Tryd.func41, Tryd.ntmps41
  go_wp2_with fail
  refine (C.out).mono ?_
  rintro e w' ⟨rfl, rfl⟩
  go_wp2_with fail
  refine wp_region_still_tail 15 (by kernel_rfl) (by kernel_rfl) ?_
  simp only [List.take_succ_cons, List.take_zero, List.drop_succ_cons, List.drop_zero]
  change wpStill _ _ w.drew (fun a' => wpList _ _ _ _ a' w.drew) _ _
  have hg2 : Only lo (lo + 5) w w.drew := Only.drew _ _ w
  have M0 := HM.out
  generalize w.drew = w2 at M0 hg2 ⊢
  clear HM C
  have h0 := M0.c0
  have h1 := M0.c1
  have h2 := M0.cn k (by omega)
  have h3 := M0.cp k (by omega)
  have h4 := M0.hn
  have h5 := M0.hm
  have hx : (k : Int) < (n : Int) + (m : Int) := by omega
  have hx0 : 0 ≤ (k : Int) := by omega
  have hx1 : (k : Int) < ((n + m : Nat) : Int) := by omega
  have C4 := Lib.hid (join_any (P k) (N k) M0 hp hq)
  clear M0
  generalize hPk : P k = pk at *
  generalize hNk : N k = nk at *
  repeat still_step
  refine wpStill_nil ?_
  go_wp2_with fail
  refine C4.out.mono ?_
  rintro e w3 ⟨rfl, k1, M2⟩
  clear h0 h1 h2 h3 C4 hPk hNk
  have g2 := M2.c2
  have g3 := M2.co k hkn
  have g4 := M2.fo k hkn
  have M3 := M2.setO k (-1) hkn
  have g5 := M3.c3
  have g6 := M3.cl i hi
  have g7 := M3.fl i hi
  have M4 := Lib.hid (M3.setZ i ((L i).length - 1) hi)
  have K3 := Lib.hid (Only.set (lo := lo) (hi := lo + 5) w3 ⟨bo, k, none⟩ (.int .i64 (-1)) M2.ro.1 (by have := M2.ro.2; simp; omega))
  have K4 := Lib.hid (Only.set (lo := lo) (hi := lo + 5) (w3.setCell ⟨bo, k, none⟩ (.int .i64 (-1))) ⟨bl, i, none⟩ (.int .i64 ((L i).length - 1 : Nat)) M2.rl.1 (by have := M2.rl.2; simp; omega))
  have K2 := Lib.hid (hg2.trans k1)
  clear M2 M3 k1 hg2
  generalize (L i).length = z at *
  obtain ⟨z, rfl⟩ : ∃ y, z = y + 1 := ⟨z - 1, by omega⟩
  have e1 : ((z + 1 : Nat) : Int) - 1 = (z : Int) := by omega
  simp only [Nat.add_sub_cancel] at M4 K4 HL
  go_wp2
  go_ret
  refine ⟨rfl, (K2.out.trans K3.out).trans K4.out, bn, bp, bo, bl, _, _, _, ?_, HG.out⟩
  rw [HL.out]
  exact M4.out

end
end Go.Proofs.YtkkodhjolgcokaaDoor
