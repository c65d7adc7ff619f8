/-
  Contracts of package wheel, over this seat's translation: First.
-/
import Derived.Test.YtpabnhiaafnjpaaWheel11
namespace Go.Proofs.Ytpabnhiaafnjpaa
open Go.RowKit Go.Lib
set_option maxRecDepth 100000
set_option linter.unusedVariables false

section
variable {w : World} {wb ab lb n now : Nat} {A : Nat → Nat × Nat} {L : Nat → List Nat} {C : Nat → Nat} {S : Nat → Option (Nat × Nat)} {pl : Nat → Nat}

theorem WInv.row_none (I : WInv n A L C S pl) {r : Nat} (hr : r < 12) (h0 : C r = 0) : ∀ i, r * 64 ≤ i → i < r * 64 + 64 → L i = [] := fun i h1 h2 => by
  have h3 := I.cnt r hr
  rw [h0] at h3
  have h4 : flatL L r 64 = [] := List.length_eq_zero_iff.1 h3.symm
  rcases hq : L i with _ | ⟨x, l⟩
  · rfl
  · have : x ∈ flatL L r 64 := (flat_mem 64).2 ⟨i - r * 64, by omega, by rw [show r * 64 + (i - r * 64) = i by omega, hq]; simp⟩
    rw [h4] at this; cases this

set_option maxHeartbeats 8000000 in
set_option maxRecDepth 100000 in
/-- First: the least of the first list that has any; nothing, if none has. -/
theorem wfirst_any (H : WhMem w wb ab lb n now A L C) (I : WInv n A L C S pl) (hn : n ≤ 4096) (y : Nat) (b : Bool)
    (hf : (∃ i, i < 768 ∧ 0 < (L i).length ∧ (∀ j, j < i → L j = []) ∧ b = true ∧ y = minT A (L i) ((L i).length - 1)) ∨ ((∀ i, i < 768 → L i = []) ∧ b = false ∧ y = 0)) :
    Calls Try.prog 23 #[.pointer (some ⟨wb, 0, none⟩)] w fun e w' => e = .returned (.tuple #[.int .u64 (y : Int), .bool b]) ∧ w.grownBy w' none := by
  have HH := Lib.hid H
  have HI := Lib.hid I
  have HF := Lib.hid hf
  clear H I hf
  go_enter Try.func23, Try.ntmps23
  go_wp2
  go_loopw [7] (fun it wr => ∃ r : Nat, r ≤ 12 ∧ it = .int .i64 r ∧ Hid (∀ i, i < r * 64 → L i = []) ∧ Hid (w.grownBy wr none)) (fun it _ => 12 - (Go.RowKit.intOf it).toNat)
  case atStart => exact ⟨0, Nat.zero_le _, rfl, Lib.hid fun i hi => absurd hi (by omega), Lib.hid (World.grownBy.refl _ _)⟩
  case round =>
    obtain ⟨r, hr, rfl, NO, KR⟩ := hrel
    by_cases hr12 : r < 12
    · have c := (HH.out.kept KR.out).c3 r hr12
      have ri : (r : Int) < 12 := by omega
      obtain ⟨cr, hcr⟩ : ∃ cr, C r = cr := ⟨_, rfl⟩
      rw [hcr] at c
      rcases Nat.eq_zero_or_pos cr with h0 | h0
      · subst h0
        have NO2 : Hid (∀ i, i < (r + 1) * 64 → L i = []) := Lib.hid fun i hi => by
          by_cases e : i < r * 64
          · exact NO.out i e
          · exact HI.out.row_none hr12 hcr i (by omega) (by omega)
        clear hcr
        go_wp2
        go_roundw
        case rel => exact ⟨r + 1, by omega, by go_num, NO2, KR⟩
        case measure => simp [Go.RowKit.intOf]; omega
      · have hc0 : ¬ (cr : Int) = 0 := by omega
        clear hcr h0
        go_wp2
        clear hc0 c
        try (rename ((cr : Int) == 0) = false => q1; clear q1)
        try (rename ¬ cr = 0 => q1; clear q1)
        go_loopw [17] (fun it w2 => ∃ j : Nat, j ≤ 64 ∧ it = .int .i64 j ∧ Hid (∀ i, i < r * 64 + j → L i = []) ∧ Hid (w.grownBy w2 none)) (fun it _ => 64 - (Go.RowKit.intOf it).toNat)
        case atStart => exact ⟨0, Nat.zero_le _, rfl, Lib.hid fun i hi => NO.out i (by omega), KR⟩
        case round =>
          obtain ⟨j, hj, rfl, NJ, KJ⟩ := hrel
          clear KR
          by_cases hj64 : j < 64
          · have CL := Lib.hid (fun v => listOf_any r j v (by omega) hj64)
            obtain ⟨li, hli⟩ : ∃ li, r * 64 + j = li := ⟨_, rfl⟩
            have hlm : li < 768 := by omega
            have CALL := Lib.hid (fun (v : World) (hv : w.grownBy v none) => all_in li (HH.out.kept hv).links hlm)
            rw [hli] at CL NJ
            have HLI := Lib.hid hli
            have ji : (j : Int) < 64 := by omega
            clear hli
            go_wp2
            have kd : wr.grownBy wr.drew none := ⟨rfl, rfl, rfl, Nat.le_refl _, fun _ _ _ => rfl⟩
            have KD := Lib.hid (KJ.out.trans kd)
            have hrd : wr.drew.cell? ⟨wb, 2, none⟩ = some (.pointer (some ⟨lb + 4, 0, none⟩)) := (HH.out.kept KD.out).c2
            refine wp_region_held_drew (S := fun w' => w'.cell? ⟨wb, 2, none⟩ = some (.pointer (some ⟨lb + 4, 0, none⟩))) (by kernel_rfl) hrd (fun hHeld => ?_)
            clear KJ kd
            generalize wr.drew = w2 at *
            refine wpAnyH_take (i := 0) (oi := ⟨_, _, _, _, _, _⟩) (v := ?_) rfl (by kernel_rfl) (by kernel_rfl) (by kernel_rfl) (fun _ _ _ h => h) (Or.inl ⟨by rfl, ?_⟩) (by assumption) ?_
            rotate_left
            · intro wz hSw
              go_simp
              try with_reducible rfl
            simp only [Act.put, List.setIfInBounds_toArray, List.set_cons_zero, List.set_cons_succ]
            refine wpAnyH_take (i := 1) (oi := ⟨_, _, _, _, _, _⟩) (v := ?_) rfl (by kernel_rfl) (by kernel_rfl) (by kernel_rfl) (fun _ _ _ h => h) (Or.inl ⟨by rfl, ?_⟩) (by assumption) ?_
            rotate_left
            · intro wz hSw
              go_simp
              try with_reducible rfl
            simp only [Act.put, List.setIfInBounds_toArray, List.set_cons_zero, List.set_cons_succ]
            refine wpAnyH_take (i := 2) (oi := ⟨_, _, _, _, _, _⟩) (v := ?_) rfl (by kernel_rfl) (by kernel_rfl) (by kernel_rfl) (fun _ _ _ h => h) (Or.inl ⟨by rfl, ?_⟩) (by assumption) ?_
            rotate_left
            · intro wz hSw
              go_simp
              try with_reducible rfl
            simp only [Act.put, List.setIfInBounds_toArray, List.set_cons_zero, List.set_cons_succ]
            refine wpAnyH_take (i := 3) (oi := ⟨_, _, _, _, _, _⟩) (v := ?_) rfl (by kernel_rfl) (by kernel_rfl) (by kernel_rfl) (fun _ _ _ h => h) (Or.inl ⟨by rfl, ?_⟩) (by assumption) ?_
            rotate_left
            · intro wz hSw
              go_simp
              try with_reducible rfl
            simp only [Act.put, List.setIfInBounds_toArray, List.set_cons_zero, List.set_cons_succ]
            refine wpAnyH_take (i := 4) (oi := ⟨_, _, _, _, _, _⟩) (v := ?_) rfl (by kernel_rfl) (by kernel_rfl) (by kernel_rfl) (fun _ _ _ h => h) (Or.inl ⟨by rfl, ?_⟩) (by assumption) ?_
            rotate_left
            · intro wz hSw
              go_simp
              try with_reducible rfl
            simp only [Act.put, List.setIfInBounds_toArray, List.set_cons_zero, List.set_cons_succ]
            refine wpAnyH_take (i := 5) (oi := ⟨_, _, _, _, _, _⟩) (v := ?_) rfl (by kernel_rfl) (by kernel_rfl) (by kernel_rfl) (fun _ _ _ h => h) (Or.inl ⟨by rfl, ?_⟩) (by assumption) ?_
            rotate_left
            · intro wz hSw
              go_simp
              try with_reducible rfl
            simp only [Act.put, List.setIfInBounds_toArray, List.set_cons_zero, List.set_cons_succ]
            refine wpAnyH_ready (rs := [6]) (by kernel_rfl) (by simp) ?_
            refine AllReadyH.cons (o := ⟨_, _, _, _, _, _⟩) rfl (fun K hK => ?_) AllReadyH.nil
            go_simp
            refine (CL.out _).mono ?_
            rintro e w' ⟨rfl, rfl⟩
            refine hK.out _ _ hrd (fun hHeld2 => ?_)
            clear hK K CL
            try simp only [Act.put, List.setIfInBounds_toArray, List.set_cons_zero, List.set_cons_succ]
            refine wpAnyH_ready (rs := [7]) (by kernel_rfl) (by simp) ?_
            refine AllReadyH.cons (o := ⟨_, _, _, _, _, _⟩) rfl (fun K hK => ?_) AllReadyH.nil
            go_simp
            refine (CALL.out _ KD.out).mono ?_
            rintro e w3 ⟨q3, cp3, rfl, k3, R3⟩
            have KD3 := Lib.hid (KD.out.trans k3)
            have RN3 := Lib.hid R3
            have hrd3 : w3.cell? ⟨wb, 2, none⟩ = some (.pointer (some ⟨lb + 4, 0, none⟩)) := k3.cell hrd (by simp)
            refine hK.out _ _ hrd3 (fun hHeld3 => ?_)
            clear hK K CALL KD k3 R3
            try simp only [Act.put, List.setIfInBounds_toArray, List.set_cons_zero, List.set_cons_succ]
            refine wpAnyH_take (i := 8) (oi := ⟨_, _, _, _, _, _⟩) (v := ?_) rfl (by kernel_rfl) (by kernel_rfl) (by kernel_rfl) (fun _ _ _ h => h) (Or.inl ⟨by rfl, ?_⟩) (by assumption) ?_
            rotate_left
            · intro wz hSw
              go_simp
              try with_reducible rfl
            simp only [Act.put, List.setIfInBounds_toArray, List.set_cons_zero, List.set_cons_succ]
            refine wpAnyH_done (by kernel_rfl) ?_ _
            clear hHeld hHeld2 hHeld3 hrd hrd3
            rcases Nat.eq_zero_or_pos (L li).length with h0 | h0
            · have NJ2 : Hid (∀ i, i < r * 64 + (j + 1) → L i = []) := Lib.hid fun i hi => by
                have h1 := HLI.out
                by_cases e : i = li
                · rw [e]; exact List.length_eq_zero_iff.1 h0
                · exact NJ.out i (by omega)
              rw [h0]
              clear h0 RN3
              go_wp2
              go_roundw
              case rel => exact ⟨j + 1, by omega, by go_num, NJ2, KD3⟩
              case measure => simp [Go.RowKit.intOf]; omega
            · obtain ⟨rfl, rfl⟩ : b = true ∧ y = minT A (L li) ((L li).length - 1) := by
                rcases HF.out with ⟨i, hi, hp, hbe, hb, hy⟩ | ⟨hall, _⟩
                · have e : i = li := by
                    rcases Nat.lt_trichotomy i li with h | h | h
                    · rw [NJ.out i h] at hp; simp at hp
                    · exact h
                    · rw [hbe li h] at h0; simp at h0
                  subst e; exact ⟨hb, hy⟩
                · rw [hall li hlm] at h0; simp at h0
              have hfew := HH.out.links.few li hlm
              have CLS := Lib.hid (wleast_any (HH.out.kept KD3.out) RN3.out h0 (by omega) (fun k hk => HH.out.links.bound li hlm k hk))
              have hl0 : (0 : Int) < ((L li).length : Int) := by omega
              clear HF h0 RN3 hfew
              go_wp2_with fail
              refine CLS.out.mono ?_
              rintro e w4 ⟨rfl, k4⟩
              have K4 := Lib.hid (KD3.out.trans k4)
              clear CLS k4 KD3
              go_wp2
              go_ret2
              exact ⟨rfl, K4.out⟩
          · obtain rfl : j = 64 := by omega
            have NO2 : Hid (∀ i, i < (r + 1) * 64 → L i = []) := Lib.hid fun i hi => NJ.out i (by omega)
            clear hj64 NJ
            go_wp2
            go_roundw
            case rel => exact ⟨r + 1, by omega, by go_num, NO2, KJ⟩
            case measure => simp [Go.RowKit.intOf]; omega
    · obtain rfl : r = 12 := by omega
      obtain ⟨rfl, rfl⟩ : b = false ∧ y = 0 := by
        rcases HF.out with ⟨i, hi, hp, _⟩ | ⟨_, h⟩
        · rw [NO.out i hi] at hp; simp at hp
        · exact h
      clear hr12 HF
      go_wp2
      go_ret2
      exact ⟨rfl, KR.out⟩
end
end Go.Proofs.Ytpabnhiaafnjpaa
