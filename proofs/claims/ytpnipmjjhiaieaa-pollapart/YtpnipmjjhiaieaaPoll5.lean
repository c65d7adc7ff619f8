/-
  A poll's calls lineUp, Settle.
-/
import Derived.Test.YtpnipmjjhiaieaaPoll4
namespace Go.Proofs.Ytpnipmjjhiaieaa
open Go.RowKit Go.Lib BN
set_option maxRecDepth 100000
set_option linter.unusedVariables false
/-- The queue, and who is looked at first, behind the first k of the turn. -/
def lineN (T D : Nat) (M : Int) (G : Nat → Gt) (n f0 : Nat) (Q : List Nat) : Nat → List Nat × Nat
  | 0 => (Q, f0)
  | k + 1 => if (G ((f0 + k) % n)).td ≠ 0 ∧ (pushD T D M (lineN T D M G n f0 Q k).1 ((f0 + k) % n : Nat)).2 = true
    then ((pushD T D M (lineN T D M G n f0 Q k).1 ((f0 + k) % n : Nat)).1, ((f0 + k) % n + 1) % n)
    else lineN T D M G n f0 Q k
section
variable {w w' : World} {pb gb bb c qb lo hi n cap T D f : Nat} {Mx : Int} {G : Nat → Gt} {L : List (Nat × (Int × Int))} {Q : List Nat}

set_option maxHeartbeats 4000000 in
theorem po_lineUp (H : PoM w pb gb bb c qb lo hi n cap T D Mx G L f Q) : Calls Try.prog 41 #[.pointer (some ⟨pb, 0, none⟩)] w fun e w' => e = .returned (.tuple #[]) ∧ PoM w' pb gb bb c qb lo hi n cap T D Mx G L (lineN T D Mx G n f Q n).2 (lineN T D Mx G n f Q n).1 ∧ OnlyB (ownP pb gb bb c lo hi L) w w' := by
  obtain ⟨c0, c1, c2, c3, fz⟩ := p_cells H
  have HH := Lib.hid H
  have hn := H.nb.1
  have hfb : f ≤ 64 := by have := H.nb; omega
  clear H c1 c2 fz
  go_enter Try.func41, Try.ntmps41
  go_wp2_with fail
  clear c0 c3
  go_loopw [14] (fun it wr => ∃ k : Nat, k ≤ n ∧ it = .int .i64 k ∧ Hid (PoM wr pb gb bb c qb lo hi n cap T D Mx G L (lineN T D Mx G n f Q k).2 (lineN T D Mx G n f Q k).1) ∧ Hid (OnlyB (ownP pb gb bb c lo hi L) w wr)) (fun it _ => n - (intOf it).toNat)
  case atStart => exact ⟨0, Nat.zero_le _, rfl, HH, Lib.hid (OnlyB.refl ..)⟩
  case round =>
    clear HH
    obtain ⟨k, hk, rfl, H0, K0⟩ := hrel
    by_cases hlt : k < n
    · have qk : (k : Int) < (n : Int) := by omega
      have hpos : (n : Int) ≠ 0 := by omega
      obtain ⟨dv, hdv⟩ : ∃ dv, (f + k) % n = dv := ⟨_, rfl⟩
      have hdb : dv < n := by rw [← hdv]; exact Nat.mod_lt _ (by omega)
      have hrem : ((f : Int) + (k : Int)).tmod (n : Int) = (dv : Int) := by rw [← hdv]; exact Int.tmod_eq_emod_of_nonneg (by omega) |>.trans (by norm_cast)
      have hrem2 : ((dv : Int) + 1).tmod (n : Int) = (((dv + 1) % n : Nat) : Int) := by exact Int.tmod_eq_emod_of_nonneg (by omega) |>.trans (by norm_cast)
      have hst : lineN T D Mx G n f Q (k + 1) = if (G dv).td ≠ 0 ∧ (pushD T D Mx (lineN T D Mx G n f Q k).1 (dv : Nat)).2 = true then ((pushD T D Mx (lineN T D Mx G n f Q k).1 (dv : Nat)).1, (dv + 1) % n) else lineN T D Mx G n f Q k := by rw [lineN, hdv]
      have HST := Lib.hid hst
      generalize lineN T D Mx G n f Q k = P at *
      have c0 := (p_cells H0.out).1
      clear hdv hst
      go_wp2_with fail
      have H1 := Lib.hid H0.out.drew
      have K1 := Lib.hid (K0.out.trans (OnlyB.of_none (gd (World.grownBy.refl _ _))))
      have CW := Lib.hid (gwants_any (H1.out.gs.gt dv hdb))
      have t0 := (p_cells H1.out).1
      have t2 := (p_cells H1.out).2.2.1
      clear H0 K0 c0
      by_cases htd : (G dv).td = 0
      · have htf : decide ((G dv).td ≠ 0) = false := by simp [htd]
        have HST1 : Hid (lineN T D Mx G n f Q (k + 1) = P) := Lib.hid (by rw [HST.out, if_neg (by simp [htd])])
        rw [htf] at CW
        clear htf htd HST
        refine wp_region_held_drew (S := fun w' => w'.cell? ⟨pb, 0, none⟩ = some (.slice (some ⟨gb, 0, none⟩) n n) ∧ w'.cell? ⟨pb, 2, none⟩ = some (.pointer (some ⟨qb, 0, none⟩))) (by kernel_rfl) ⟨t0, t2⟩ (fun hHeld => ?_)
        refine wpAnyH_take (i := 0) (oi := ⟨_, _, _, _, _, _⟩) (v := ?_) rfl (by kernel_rfl) (by kernel_rfl) (by kernel_rfl) (fun _ _ _ h => h) (Or.inl ⟨by rfl, ?_⟩) (by assumption) ?_
        rotate_left
        · intro wz hSw
          try dsimp only at hSw
          go_simp
          try with_reducible rfl
        simp only [Act.put, List.setIfInBounds_toArray, List.set_cons_zero, List.set_cons_succ]
        refine wpAnyH_take (i := 1) (oi := ⟨_, _, _, _, _, _⟩) (v := ?_) rfl (by kernel_rfl) (by kernel_rfl) (by kernel_rfl) (fun _ _ _ h => h) (Or.inl ⟨by rfl, ?_⟩) (by assumption) ?_
        rotate_left
        · intro wz hSw
          try dsimp only at hSw
          go_simp
          try with_reducible rfl
        simp only [Act.put, List.setIfInBounds_toArray, List.set_cons_zero, List.set_cons_succ]
        refine wpAnyH_take (i := 2) (oi := ⟨_, _, _, _, _, _⟩) (v := ?_) rfl (by kernel_rfl) (by kernel_rfl) (by kernel_rfl) (fun _ _ _ h => h) (Or.inl ⟨by rfl, ?_⟩) (by assumption) ?_
        rotate_left
        · intro wz hSw
          try dsimp only at hSw
          go_simp
          try with_reducible rfl
        simp only [Act.put, List.setIfInBounds_toArray, List.set_cons_zero, List.set_cons_succ]
        refine wpAnyH_take (i := 3) (oi := ⟨_, _, _, _, _, _⟩) (v := ?_) rfl (by kernel_rfl) (by kernel_rfl) (by kernel_rfl) (fun _ _ _ h => h) (Or.inl ⟨by rfl, ?_⟩) (by assumption) ?_
        rotate_left
        · intro wz hSw
          try dsimp only at hSw
          go_simp
          try with_reducible rfl
        simp only [Act.put, List.setIfInBounds_toArray, List.set_cons_zero, List.set_cons_succ]
        refine wpAnyH_take (i := 4) (oi := ⟨_, _, _, _, _, _⟩) (v := ?_) rfl (by kernel_rfl) (by kernel_rfl) (by kernel_rfl) (fun _ _ _ h => h) (Or.inl ⟨by rfl, ?_⟩) (by assumption) ?_
        rotate_left
        · intro wz hSw
          try dsimp only at hSw
          go_simp
          try with_reducible rfl
        simp only [Act.put, List.setIfInBounds_toArray, List.set_cons_zero, List.set_cons_succ]
        refine wpAnyH_take (i := 5) (oi := ⟨_, _, _, _, _, _⟩) (v := ?_) rfl (by kernel_rfl) (by kernel_rfl) (by kernel_rfl) (fun _ _ _ h => h) (Or.inl ⟨by rfl, ?_⟩) (by assumption) ?_
        rotate_left
        · intro wz hSw
          try dsimp only at hSw
          go_simp
          try with_reducible rfl
        simp only [Act.put, List.setIfInBounds_toArray, List.set_cons_zero, List.set_cons_succ]
        refine wpAnyH_ready (rs := [6]) (by kernel_rfl) (by simp) ?_
        refine AllReadyH.cons (o := ⟨_, _, _, _, _, _⟩) rfl (fun K hK => ?_) AllReadyH.nil
        go_simp
        refine CW.out.mono ?_
        rintro e w1 ⟨rfl, rfl⟩
        refine hK.out _ _ ⟨t0, t2⟩ (fun hHeld => ?_)
        clear hK K
        try simp only [Act.put, List.setIfInBounds_toArray, List.set_cons_zero, List.set_cons_succ]
        refine wpAnyH_take (i := 7) (oi := ⟨_, _, _, _, _, _⟩) (v := ?_) rfl (by kernel_rfl) (by kernel_rfl) (by kernel_rfl) (fun _ _ _ h => h) (Or.inl ⟨by rfl, ?_⟩) (by assumption) ?_
        rotate_left
        · intro wz hSw
          try dsimp only at hSw
          go_simp
          try with_reducible rfl
        simp only [Act.put, List.setIfInBounds_toArray, List.set_cons_zero, List.set_cons_succ]
        clear CW
        refine wpAnyH_take (i := 8) (oi := ⟨_, _, _, _, _, _⟩) (v := undef) rfl (by kernel_rfl) (by kernel_rfl) (by kernel_rfl) (fun _ _ _ h => h) (Or.inr ⟨by rfl, rfl⟩) (by assumption) ?_
        simp only [Act.put, List.setIfInBounds_toArray, List.set_cons_zero, List.set_cons_succ]
        refine wpAnyH_take (i := 9) (oi := ⟨_, _, _, _, _, _⟩) (v := undef) rfl (by kernel_rfl) (by kernel_rfl) (by kernel_rfl) (fun _ _ _ h => h) (Or.inr ⟨by rfl, rfl⟩) (by assumption) ?_
        simp only [Act.put, List.setIfInBounds_toArray, List.set_cons_zero, List.set_cons_succ]
        refine wpAnyH_take (i := 10) (oi := ⟨_, _, _, _, _, _⟩) (v := undef) rfl (by kernel_rfl) (by kernel_rfl) (by kernel_rfl) (fun _ _ _ h => h) (Or.inr ⟨by rfl, rfl⟩) (by assumption) ?_
        simp only [Act.put, List.setIfInBounds_toArray, List.set_cons_zero, List.set_cons_succ]
        refine wpAnyH_take (i := 11) (oi := ⟨_, _, _, _, _, _⟩) (v := undef) rfl (by kernel_rfl) (by kernel_rfl) (by kernel_rfl) (fun _ _ _ h => h) (Or.inr ⟨by rfl, rfl⟩) (by assumption) ?_
        simp only [Act.put, List.setIfInBounds_toArray, List.set_cons_zero, List.set_cons_succ]
        refine wpAnyH_take (i := 12) (oi := ⟨_, _, _, _, _, _⟩) (v := undef) rfl (by kernel_rfl) (by kernel_rfl) (by kernel_rfl) (fun _ _ _ h => h) (Or.inr ⟨by rfl, rfl⟩) (by assumption) ?_
        simp only [Act.put, List.setIfInBounds_toArray, List.set_cons_zero, List.set_cons_succ]
        refine wpAnyH_take (i := 13) (oi := ⟨_, _, _, _, _, _⟩) (v := undef) rfl (by kernel_rfl) (by kernel_rfl) (by kernel_rfl) (fun _ _ _ h => h) (Or.inr ⟨by rfl, rfl⟩) (by assumption) ?_
        simp only [Act.put, List.setIfInBounds_toArray, List.set_cons_zero, List.set_cons_succ]
        refine wpAnyH_take (i := 14) (oi := ⟨_, _, _, _, _, _⟩) (v := undef) rfl (by kernel_rfl) (by kernel_rfl) (by kernel_rfl) (fun _ _ _ h => h) (Or.inr ⟨by rfl, rfl⟩) (by assumption) ?_
        simp only [Act.put, List.setIfInBounds_toArray, List.set_cons_zero, List.set_cons_succ]
        refine wpAnyH_take (i := 15) (oi := ⟨_, _, _, _, _, _⟩) (v := ?_) rfl (by kernel_rfl) (by kernel_rfl) (by kernel_rfl) (fun _ _ _ h => h) (Or.inl ⟨by rfl, ?_⟩) (by assumption) ?_
        rotate_left
        · intro wz hSw
          try dsimp only at hSw
          go_simp
          try with_reducible rfl
        simp only [Act.put, List.setIfInBounds_toArray, List.set_cons_zero, List.set_cons_succ]
        refine wpAnyH_done (by kernel_rfl) ?_ _
        clear hHeld t0 t2
        go_wp2
        go_roundw
        case rel => exact ⟨k + 1, hlt, by go_num, Lib.hid (by rw [HST1.out]; exact H1.out), K1⟩
        case measure => simp [intOf]; omega
      · have htf : decide ((G dv).td ≠ 0) = true := by simp [htd]
        have HTD := Lib.hid htd
        rw [htf] at CW
        clear htf htd
        refine wp_region_held_drew (S := fun w' => w'.cell? ⟨pb, 0, none⟩ = some (.slice (some ⟨gb, 0, none⟩) n n) ∧ w'.cell? ⟨pb, 2, none⟩ = some (.pointer (some ⟨qb, 0, none⟩))) (by kernel_rfl) ⟨t0, t2⟩ (fun hHeld => ?_)
        refine wpAnyH_take (i := 0) (oi := ⟨_, _, _, _, _, _⟩) (v := ?_) rfl (by kernel_rfl) (by kernel_rfl) (by kernel_rfl) (fun _ _ _ h => h) (Or.inl ⟨by rfl, ?_⟩) (by assumption) ?_
        rotate_left
        · intro wz hSw
          try dsimp only at hSw
          go_simp
          try with_reducible rfl
        simp only [Act.put, List.setIfInBounds_toArray, List.set_cons_zero, List.set_cons_succ]
        refine wpAnyH_take (i := 1) (oi := ⟨_, _, _, _, _, _⟩) (v := ?_) rfl (by kernel_rfl) (by kernel_rfl) (by kernel_rfl) (fun _ _ _ h => h) (Or.inl ⟨by rfl, ?_⟩) (by assumption) ?_
        rotate_left
        · intro wz hSw
          try dsimp only at hSw
          go_simp
          try with_reducible rfl
        simp only [Act.put, List.setIfInBounds_toArray, List.set_cons_zero, List.set_cons_succ]
        refine wpAnyH_take (i := 2) (oi := ⟨_, _, _, _, _, _⟩) (v := ?_) rfl (by kernel_rfl) (by kernel_rfl) (by kernel_rfl) (fun _ _ _ h => h) (Or.inl ⟨by rfl, ?_⟩) (by assumption) ?_
        rotate_left
        · intro wz hSw
          try dsimp only at hSw
          go_simp
          try with_reducible rfl
        simp only [Act.put, List.setIfInBounds_toArray, List.set_cons_zero, List.set_cons_succ]
        refine wpAnyH_take (i := 3) (oi := ⟨_, _, _, _, _, _⟩) (v := ?_) rfl (by kernel_rfl) (by kernel_rfl) (by kernel_rfl) (fun _ _ _ h => h) (Or.inl ⟨by rfl, ?_⟩) (by assumption) ?_
        rotate_left
        · intro wz hSw
          try dsimp only at hSw
          go_simp
          try with_reducible rfl
        simp only [Act.put, List.setIfInBounds_toArray, List.set_cons_zero, List.set_cons_succ]
        refine wpAnyH_take (i := 4) (oi := ⟨_, _, _, _, _, _⟩) (v := ?_) rfl (by kernel_rfl) (by kernel_rfl) (by kernel_rfl) (fun _ _ _ h => h) (Or.inl ⟨by rfl, ?_⟩) (by assumption) ?_
        rotate_left
        · intro wz hSw
          try dsimp only at hSw
          go_simp
          try with_reducible rfl
        simp only [Act.put, List.setIfInBounds_toArray, List.set_cons_zero, List.set_cons_succ]
        refine wpAnyH_take (i := 5) (oi := ⟨_, _, _, _, _, _⟩) (v := ?_) rfl (by kernel_rfl) (by kernel_rfl) (by kernel_rfl) (fun _ _ _ h => h) (Or.inl ⟨by rfl, ?_⟩) (by assumption) ?_
        rotate_left
        · intro wz hSw
          try dsimp only at hSw
          go_simp
          try with_reducible rfl
        simp only [Act.put, List.setIfInBounds_toArray, List.set_cons_zero, List.set_cons_succ]
        refine wpAnyH_ready (rs := [6]) (by kernel_rfl) (by simp) ?_
        refine AllReadyH.cons (o := ⟨_, _, _, _, _, _⟩) rfl (fun K hK => ?_) AllReadyH.nil
        go_simp
        refine CW.out.mono ?_
        rintro e w1 ⟨rfl, rfl⟩
        refine hK.out _ _ ⟨t0, t2⟩ (fun hHeld => ?_)
        clear hK K
        try simp only [Act.put, List.setIfInBounds_toArray, List.set_cons_zero, List.set_cons_succ]
        refine wpAnyH_take (i := 7) (oi := ⟨_, _, _, _, _, _⟩) (v := ?_) rfl (by kernel_rfl) (by kernel_rfl) (by kernel_rfl) (fun _ _ _ h => h) (Or.inl ⟨by rfl, ?_⟩) (by assumption) ?_
        rotate_left
        · intro wz hSw
          try dsimp only at hSw
          go_simp
          try with_reducible rfl
        simp only [Act.put, List.setIfInBounds_toArray, List.set_cons_zero, List.set_cons_succ]
        clear CW
        have CT := Lib.hid (po_thing (w := wr.drew) dv)
        refine wpAnyH_take (i := 8) (oi := ⟨_, _, _, _, _, _⟩) (v := ?_) rfl (by kernel_rfl) (by kernel_rfl) (by kernel_rfl) (fun _ _ _ h => h) (Or.inl ⟨by rfl, ?_⟩) (by assumption) ?_
        rotate_left
        · intro wz hSw
          try dsimp only at hSw
          go_simp
          try with_reducible rfl
        simp only [Act.put, List.setIfInBounds_toArray, List.set_cons_zero, List.set_cons_succ]
        refine wpAnyH_take (i := 9) (oi := ⟨_, _, _, _, _, _⟩) (v := ?_) rfl (by kernel_rfl) (by kernel_rfl) (by kernel_rfl) (fun _ _ _ h => h) (Or.inl ⟨by rfl, ?_⟩) (by assumption) ?_
        rotate_left
        · intro wz hSw
          try dsimp only at hSw
          go_simp
          try with_reducible rfl
        simp only [Act.put, List.setIfInBounds_toArray, List.set_cons_zero, List.set_cons_succ]
        refine wpAnyH_take (i := 10) (oi := ⟨_, _, _, _, _, _⟩) (v := ?_) rfl (by kernel_rfl) (by kernel_rfl) (by kernel_rfl) (fun _ _ _ h => h) (Or.inl ⟨by rfl, ?_⟩) (by assumption) ?_
        rotate_left
        · intro wz hSw
          try dsimp only at hSw
          go_simp
          try with_reducible rfl
        simp only [Act.put, List.setIfInBounds_toArray, List.set_cons_zero, List.set_cons_succ]
        refine wpAnyH_take (i := 11) (oi := ⟨_, _, _, _, _, _⟩) (v := ?_) rfl (by kernel_rfl) (by kernel_rfl) (by kernel_rfl) (fun _ _ _ h => h) (Or.inl ⟨by rfl, ?_⟩) (by assumption) ?_
        rotate_left
        · intro wz hSw
          try dsimp only at hSw
          go_simp
          try with_reducible rfl
        simp only [Act.put, List.setIfInBounds_toArray, List.set_cons_zero, List.set_cons_succ]
        refine wpAnyH_take (i := 12) (oi := ⟨_, _, _, _, _, _⟩) (v := ?_) rfl (by kernel_rfl) (by kernel_rfl) (by kernel_rfl) (fun _ _ _ h => h) (Or.inl ⟨by rfl, ?_⟩) (by assumption) ?_
        rotate_left
        · intro wz hSw
          try dsimp only at hSw
          go_simp
          try with_reducible rfl
        simp only [Act.put, List.setIfInBounds_toArray, List.set_cons_zero, List.set_cons_succ]
        refine wpAnyH_ready (rs := [13]) (by kernel_rfl) (by simp) ?_
        refine AllReadyH.cons (o := ⟨_, _, _, _, _, _⟩) rfl (fun K hK => ?_) AllReadyH.nil
        go_simp
        refine CT.out.mono ?_
        rintro e w2 ⟨rfl, k2⟩
        have H2 := Lib.hid (H1.out.kept k2)
        have K2 := Lib.hid (K1.out.trans (OnlyB.of_none k2))
        have s0 := (p_cells H2.out).1
        have s2 := (p_cells H2.out).2.2.1
        clear k2 CT
        refine hK.out _ _ ⟨s0, s2⟩ (fun hHeld => ?_)
        clear hK K
        try simp only [Act.put, List.setIfInBounds_toArray, List.set_cons_zero, List.set_cons_succ]
        clear t0 t2 H1 K1
        have CP := Lib.hid (qu_pushD H2.out.qu (dv : Int))
        refine wpAnyH_ready (rs := [14]) (by kernel_rfl) (by simp) ?_
        refine AllReadyH.cons (o := ⟨_, _, _, _, _, _⟩) rfl (fun K hK => ?_) AllReadyH.nil
        go_simp
        refine CP.out.mono ?_
        rintro e w3 ⟨rfl, k3, h3⟩
        have H3 := Lib.hid (H2.out.queue k3 h3)
        have K3 := Lib.hid (K2.out.trans (ownB_q k3))
        have t0 := (p_cells H3.out).1
        have t2 := (p_cells H3.out).2.2.1
        have t3 := (p_cells H3.out).2.2.2.1
        have tf := (p_cells H3.out).2.2.2.2 3
        clear k3 h3 CP s0 s2 H2 K2
        refine hK.out _ _ ⟨t0, t2⟩ (fun hHeld => ?_)
        clear hK K
        try simp only [Act.put, List.setIfInBounds_toArray, List.set_cons_zero, List.set_cons_succ]
        refine wpAnyH_take (i := 15) (oi := ⟨_, _, _, _, _, _⟩) (v := ?_) rfl (by kernel_rfl) (by kernel_rfl) (by kernel_rfl) (fun _ _ _ h => h) (Or.inl ⟨by rfl, ?_⟩) (by assumption) ?_
        rotate_left
        · intro wz hSw
          try dsimp only at hSw
          go_simp
          try with_reducible rfl
        simp only [Act.put, List.setIfInBounds_toArray, List.set_cons_zero, List.set_cons_succ]
        refine wpAnyH_done (by kernel_rfl) ?_ _
        clear hHeld t2
        cases hp : (pushD T D Mx P.1 (dv : Int)).2
        · have HST1 : Hid (lineN T D Mx G n f Q (k + 1) = P) := Lib.hid (by rw [HST.out, if_neg (by simp [hp])])
          have hq : (pushD T D Mx P.1 (dv : Int)).1 = P.1 := by
            unfold pushD at hp ⊢
            split at hp
            · cases hp
            · rfl
          have H4 := Lib.hid (hq ▸ H3.out)
          clear HST H3 hp hq t0 t3 tf
          go_wp2
          go_roundw
          case rel => exact ⟨k + 1, hlt, by go_num, Lib.hid (by rw [HST1.out]; exact H4.out), K3⟩
          case measure => simp [intOf]; omega
        · have HST1 : Hid (lineN T D Mx G n f Q (k + 1) = ((pushD T D Mx P.1 (dv : Int)).1, (dv + 1) % n)) := Lib.hid (by rw [HST.out, if_pos ⟨HTD.out, hp⟩])
          have H4 := Lib.hid (H3.out.setF ((dv + 1) % n) (Or.inr (Nat.mod_lt _ (by omega))))
          have K4 := Lib.hid (K3.out.trans (ownB_p (Only.set w3 ⟨pb, 3, none⟩ (.int .i64 (((dv + 1) % n : Nat) : Int)) (Nat.le_refl _) (Nat.lt_succ_self _))))
          clear HST H3 K3 hp
          go_wp2
          go_roundw
          case rel => exact ⟨k + 1, hlt, by go_num, Lib.hid (by rw [HST1.out]; exact H4.out), K4⟩
          case measure => simp [intOf]; omega
    · obtain rfl : k = n := by omega
      go_wp2
      go_end0
      exact ⟨rfl, H0.out, K0.out⟩
end
end Go.Proofs.Ytpnipmjjhiaieaa
