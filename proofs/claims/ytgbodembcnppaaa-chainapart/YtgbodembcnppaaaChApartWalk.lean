/-
  The walk of the statement ChainApart: what is done on one list makes no difference on another one.
-/
import Derived.Test.YtgbodembcnppaaaMovesWalk
namespace Go.Proofs.Ytgbodembcnppaaa
open Go.RowKit Go.Lib

theorem mask_one (z : Int) : bits .and .i64 z 1 = ((z % 2).toNat : Int) := by
  have h := i64_mask 1 (by decide) z
  have e : bits .and .i64 z 1 = z % 2 := h
  rw [e]; omega
theorem mask_30 (z : Int) : ∃ e : Nat, bits .and .i64 z 30 = (e : Int) ∧ e ≤ 30 ∧ e % 2 = 0 := by
  refine ⟨(BitVec.ofInt 64 z).toNat &&& 30, ?_, Nat.and_le_right, ?_⟩
  · show IntKind.i64.wrap ((BitVec.ofInt 64 z &&& BitVec.ofInt 64 30).toNat : Nat) = _
    have h : (BitVec.ofInt 64 z &&& BitVec.ofInt 64 30).toNat = (BitVec.ofInt 64 z).toNat &&& 30 := by
      rw [BitVec.toNat_and]; rfl
    have hle : (BitVec.ofInt 64 z).toNat &&& 30 ≤ 30 := Nat.and_le_right
    rw [h, IntKind.wrap_i64]
    omega
  · have h : ((BitVec.ofInt 64 z).toNat &&& 30).testBit 0 = false := by rw [Nat.testBit_and]; simp
    rw [Nat.testBit_zero] at h
    have := of_decide_eq_false h
    omega
theorem or_small : ∀ (e : Fin 31) (l : Fin 2), e.val % 2 = 0 → bits .or .i64 (e.val : Int) (l.val : Int) = ((e.val + l.val : Nat) : Int) := by decide +kernel

def pushP (P : List Nat) (k : Nat) : List Nat := if k ∈ P then P else P ++ [k]
theorem pushP_mem (P : List Nat) (k x : Nat) (h : x ∈ pushP P k) : x ∈ P ∨ x = k := by
  unfold pushP at h
  split at h
  · exact Or.inl h
  · rcases List.mem_append.1 h with h | h
    · exact Or.inl h
    · exact Or.inr (by simpa using h)

section
variable {w : World} {lo : Nat} {P Q : List Nat}
theorem push0 (k : Nat) (H : LinksAt w lo 64 2 (two P Q)) (hk : k < 64) (hQ : k ∉ Q) :
    Calls Try.prog 13 #[.pointer (some ⟨lo + 4, 0, none⟩), .int .i64 0, .int .i64 k] w fun e w' => e = .returned (.bool (!P.contains k)) ∧ Only lo (lo + 5) w w' ∧ LinksAt w' lo 64 2 (two (pushP P k) Q) := by
  by_cases h : k ∈ P
  · refine (push_no 0 k H (Or.inr (Or.inr ⟨0, by decide, by simpa [two] using h⟩))).mono fun e w' ⟨he, hw⟩ => ?_
    subst hw
    refine ⟨by rw [he]; simp [h], Only.refl _ _ _, ?_⟩
    unfold pushP; rw [if_pos h]; exact H
  · have c := push_ok 0 k H (by decide) hk (two_not _ _ _ h hQ)
    rw [two_up0, two_zero] at c
    refine c.mono fun e w' ⟨he, hw, h2⟩ => ⟨by rw [he]; simp [h], hw, ?_⟩
    unfold pushP; rw [if_neg h]; exact h2
theorem push1 (k : Nat) (H : LinksAt w lo 64 2 (two P Q)) (hk : k < 64) (hP : k ∉ P) :
    Calls Try.prog 13 #[.pointer (some ⟨lo + 4, 0, none⟩), .int .i64 1, .int .i64 k] w fun e w' => e = .returned (.bool (!Q.contains k)) ∧ Only lo (lo + 5) w w' ∧ LinksAt w' lo 64 2 (two P (pushP Q k)) := by
  by_cases h : k ∈ Q
  · refine (push_no 1 k H (Or.inr (Or.inr ⟨1, by decide, by simpa [two] using h⟩))).mono fun e w' ⟨he, hw⟩ => ?_
    subst hw
    refine ⟨by rw [he]; simp [h], Only.refl _ _ _, ?_⟩
    unfold pushP; rw [if_pos h]; exact H
  · have c := push_ok 1 k H (by decide) hk (two_not _ _ _ hP h)
    rw [two_up1, two_one] at c
    refine c.mono fun e w' ⟨he, hw, h2⟩ => ⟨by rw [he]; simp [h], hw, ?_⟩
    unfold pushP; rw [if_neg h]; exact h2
theorem pull0 (k : Nat) (H : LinksAt w lo 64 2 (two P Q)) (hQ : k ∉ Q) :
    Calls Try.prog 15 #[.pointer (some ⟨lo + 4, 0, none⟩), .int .i64 k] w fun e w' => e = .returned (.bool (P.contains k)) ∧ Only lo (lo + 5) w w' ∧ LinksAt w' lo 64 2 (two (P.erase k) Q) := by
  by_cases h : k ∈ P
  · have c := pull_ok k 0 H (by decide) h
    rw [two_up0, two_zero] at c
    exact c.mono fun e w' ⟨he, hw, h2⟩ => ⟨by rw [he]; simp [h], hw, h2⟩
  · have hn := two_not P Q k h hQ
    refine (pull_no k H fun i hi x hx e => hn i hi (by have : x = k := by omega
                                                       subst this; exact hx)).mono fun e w' ⟨he, hw⟩ => ?_
    subst hw
    exact ⟨by rw [he]; simp [h], Only.refl _ _ _, by rw [List.erase_of_not_mem h]; exact H⟩
theorem pull1 (k : Nat) (H : LinksAt w lo 64 2 (two P Q)) (hP : k ∉ P) :
    Calls Try.prog 15 #[.pointer (some ⟨lo + 4, 0, none⟩), .int .i64 k] w fun e w' => e = .returned (.bool (Q.contains k)) ∧ Only lo (lo + 5) w w' ∧ LinksAt w' lo 64 2 (two P (Q.erase k)) := by
  by_cases h : k ∈ Q
  · have c := pull_ok k 1 H (by decide) h
    rw [two_up1, two_one] at c
    exact c.mono fun e w' ⟨he, hw, h2⟩ => ⟨by rw [he]; simp [h], hw, h2⟩
  · have hn := two_not P Q k hP h
    refine (pull_no k H fun i hi x hx e => hn i hi (by have : x = k := by omega
                                                       subst this; exact hx)).mono fun e w' ⟨he, hw⟩ => ?_
    subst hw
    exact ⟨by rw [he]; simp [h], Only.refl _ _ _, by rw [List.erase_of_not_mem h]; exact H⟩
end

/-- Numbers of one list are even, those of the other one odd. -/
def Parity (P Q : List Nat) : Prop := (∀ x ∈ P, x % 2 = 0) ∧ ∀ x ∈ Q, x % 2 = 1
theorem parity_push0 {P Q : List Nat} {k : Nat} (h : Parity P Q) (hk : k % 2 = 0) : Parity (pushP P k) Q := ⟨fun x hx => by
  rcases pushP_mem P k x hx with h1 | h1
  · exact h.1 x h1
  · rw [h1]; exact hk, h.2⟩
theorem parity_push1 {P Q : List Nat} {k : Nat} (h : Parity P Q) (hk : k % 2 = 1) : Parity P (pushP Q k) := ⟨h.1, fun x hx => by
  rcases pushP_mem Q k x hx with h1 | h1
  · exact h.2 x h1
  · rw [h1]; exact hk⟩
theorem parity_pull0 {P Q : List Nat} {k : Nat} (h : Parity P Q) : Parity (P.erase k) Q := ⟨fun x hx => h.1 x (List.mem_of_mem_erase hx), h.2⟩
theorem parity_pull1 {P Q : List Nat} {k : Nat} (h : Parity P Q) : Parity P (Q.erase k) := ⟨h.1, fun x hx => h.2 x (List.mem_of_mem_erase hx)⟩

set_option maxRecDepth 100000 in
set_option maxHeartbeats 8000000 in
theorem chapart_walk (sa : Option Addr) (len cap sb off : Nat) (zs : Nat → Nat → Int) (w : World)
    (_hm : len ≤ maxLen) (hsa : 0 < len → sa = some ⟨sb, off, none⟩ ∧ sb < w.heap.size) (hz : ∀ j, j < len → ∀ i, i < 3 → w.cell? ⟨sb, off + j * 3 + i, none⟩ = some (.int .i64 (zs j i))) :
    Calls Try.prog 6 #[.slice sa len cap] w fun e w' => e = .returned (.bool true) ∧ w.grownBy w' none := by
  have HSA := Lib.hid hsa
  have HZ := Lib.hid hz
  clear hsa hz _hm
  by_cases hl : 50 < len
  · go_enter Try.func6, Try.ntmps6
    go_wp2_with fail
    refine (alive4 _).mono ?_
    rintro e w0 ⟨rfl, hG0⟩
    go_wp2
    go_ret
    exact ⟨rfl, hG0⟩
  go_enter Try.func6, Try.ntmps6
  go_wp2_with fail
  refine (alive4 _).mono ?_
  rintro e w0 ⟨rfl, hG0⟩
  go_wp2_with fail
  refine (new_made 64 2 64 2 (by decide) (by decide) _).mono ?_
  rintro e w1 ⟨la, rfl, hla, hk1, H1⟩
  have hG1 := grow_to hG0 hk1
  have hW1 : w.heap.size ≤ la := Nat.le_trans hG0.size hla
  go_wp2_with fail
  refine (new_made 64 2 64 2 (by decide) (by decide) _).mono ?_
  rintro e w2 ⟨lb, rfl, hlb, hk2, H2⟩
  have hG2 := grow_to hG1 hk2
  have H1a := H1.kept (Only.of_none (lo := 0) (hi := 0) hk2) (Or.inr (by omega))
  have d1 : la + 5 ≤ lb := Nat.le_trans H1.sz hlb
  clear hk1 hk2 hG0 hG1 H1
  go_wp2_with fail
  refine (new_made 64 2 64 2 (by decide) (by decide) _).mono ?_
  rintro e w3 ⟨lc, rfl, hlc, hk3, H3⟩
  have hG3 := grow_to hG2 hk3
  have H1b := H1a.kept (Only.of_none (lo := 0) (hi := 0) hk3) (Or.inr (by omega))
  have H2b := H2.kept (Only.of_none (lo := 0) (hi := 0) hk3) (Or.inr (by omega))
  have d2 : lb + 5 ≤ lc := Nat.le_trans H2.sz hlc
  clear hk3 hG2 H1a H2 hla hlb hlc
  rw [two_none] at H1b H2b H3
  go_wp2
  go_loopw [21] (fun it wr => ∃ (j : Nat) (P Q : List Nat), j ≤ len ∧ it = .int .i64 j ∧ Hid (Parity P Q) ∧ LinksAt wr la 64 2 (two P Q) ∧ LinksAt wr lb 64 2 (two P []) ∧ LinksAt wr lc 64 2 (two [] Q) ∧ w.grownBy wr none) (fun it _ => len - (intOf it).toNat)
  case atStart => exact ⟨0, [], [], Nat.zero_le _, rfl, Lib.hid ⟨fun x hx => absurd hx (by simp), fun x hx => absurd hx (by simp)⟩, H1b, H2b, H3, hG3⟩
  case round =>
    obtain ⟨j, P, Q, hj, rfl, hPQ, HA, HB, HC, hG⟩ := hrel
    clear H1b H2b H3 hG3
    by_cases hlt : j < len
    · obtain ⟨rfl, hsb⟩ := HSA.out (by omega)
      have hc0 : wr.cell? ⟨sb, off + j * 3, none⟩ = some (.int .i64 (zs j 0)) := (hG.cell_far ⟨sb, off + j * 3, none⟩ hsb (by simp)).trans (HZ.out j hlt 0 (by decide))
      have hc1 : wr.cell? ⟨sb, off + j * 3 + 1, none⟩ = some (.int .i64 (zs j 1)) := (hG.cell_far ⟨sb, off + j * 3 + 1, none⟩ hsb (by simp)).trans (HZ.out j hlt 1 (by decide))
      have hc2 : wr.cell? ⟨sb, off + j * 3 + 2, none⟩ = some (.int .i64 (zs j 2)) := (hG.cell_far ⟨sb, off + j * 3 + 2, none⟩ hsb (by simp)).trans (HZ.out j hlt 2 (by decide))
      generalize zs j 0 = kind at *
      generalize zs j 1 = lz at *
      generalize zs j 2 = kz at *
      have k3 := World.grownBy_alloc wr (.cells #[.int .i64 kind, .int .i64 lz, .int .i64 kz] 24) none
      have HA3 := HA.kept (Only.of_none (lo := 0) (hi := 0) k3) (Or.inr (by omega))
      have HB3 := HB.kept (Only.of_none (lo := 0) (hi := 0) k3) (Or.inr (by omega))
      have HC3 := HC.kept (Only.of_none (lo := 0) (hi := 0) k3) (Or.inr (by omega))
      have hG3 := grow_to hG k3
      have hm1 := mask_one lz
      obtain ⟨ev, hm2, hev, hev2⟩ := mask_30 kz
      have hl2 : (lz % 2).toNat < 2 := by omega
      have hor := or_small ⟨ev, by omega⟩ ⟨(lz % 2).toNat, hl2⟩ hev2
      simp only at hor
      generalize hgl : (lz % 2).toNat = li at *
      clear hgl HA HB HC hG k3
      by_cases hl0 : li = 0
      · subst hl0
        have hkQ : ev ∉ Q := fun h => by have := hPQ.out.2 ev h; omega
        have hk64 : ev < 64 := by omega
        have hor0 : bits .or .i64 (ev : Int) 0 = (ev : Int) := hor
        have hm10 : bits .and .i64 lz 1 = 0 := hm1
        clear hor hm1
        by_cases hk0 : kind = 0
        · subst hk0
          have c1 := push0 ev HA3 hk64 hkQ
          obtain ⟨pc, hpc⟩ : ∃ pc, P.contains ev = pc := ⟨_, rfl⟩
          rw [hpc] at c1
          have HPC := Lib.hid hpc
          have C1 : Hid (Calls Try.prog 13 #[.pointer (some ⟨la + 4, 0, none⟩), .int .i64 0, .int .i64 (ev : Int)] _ _) := Lib.hid c1
          clear c1 hpc
          have hPQ' := Lib.hid (parity_push0 hPQ.out hev2)
          clear HA3
          go_wp2_with fail
          refine C1.out.mono ?_
          rintro e w4 ⟨rfl, k4, HA4⟩
          have HB4 := HB3.kept k4 (Or.inr (by omega))
          have HC4 := HC3.kept k4 (Or.inr (by omega))
          have hG4 := Only.on hG3 k4 hW1
          clear C1 HB3 HC3 hG3 k4
          have c2 := push0 ev HB4 hk64 (by simp)
          rw [HPC.out] at c2
          have C2 : Hid (Calls Try.prog 13 #[.pointer (some ⟨lb + 4, 0, none⟩), .int .i64 0, .int .i64 (ev : Int)] w4 _) := Lib.hid c2
          clear c2
          clear HB4
          go_wp2_with fail
          refine C2.out.mono ?_
          rintro e w5 ⟨rfl, k5, HB5⟩
          have HA5 := HA4.kept k5 (Or.inl (by omega))
          have HC5 := HC4.kept k5 (Or.inr (by omega))
          have hG5 := Only.on hG4 k5 (by omega)
          clear C2 HA4 HC4 hG4 k5
          cases pc
          all_goals
            go_wp2
            go_roundw
            case rel => exact ⟨j + 1, _, _, by omega, by go_num, hPQ', HA5, HB5, HC5, hG5⟩
            case measure => simp [intOf]; omega
        · have e0 : (kind == 0) = false := by rw [beq_eq_false_iff_ne]; exact hk0
          by_cases hk1 : kind = 1
          · subst hk1
            have c1 := pull0 ev HA3 hkQ
            obtain ⟨pc, hpc⟩ : ∃ pc, P.contains ev = pc := ⟨_, rfl⟩
            rw [hpc] at c1
            have HPC := Lib.hid hpc
            have C1 : Hid (Calls Try.prog 15 #[.pointer (some ⟨la + 4, 0, none⟩), .int .i64 (ev : Int)] _ _) := Lib.hid c1
            clear c1 hpc
            have hPQ' := Lib.hid (parity_pull0 (k := ev) hPQ.out)
            clear HA3
            go_wp2_with fail
            refine C1.out.mono ?_
            rintro e w4 ⟨rfl, k4, HA4⟩
            have HB4 := HB3.kept k4 (Or.inr (by omega))
            have HC4 := HC3.kept k4 (Or.inr (by omega))
            have hG4 := Only.on hG3 k4 hW1
            clear C1 HB3 HC3 hG3 k4
            have c2 := pull0 ev HB4 (by simp)
            rw [HPC.out] at c2
            have C2 : Hid (Calls Try.prog 15 #[.pointer (some ⟨lb + 4, 0, none⟩), .int .i64 (ev : Int)] w4 _) := Lib.hid c2
            clear c2
            clear HB4
            go_wp2_with fail
            refine C2.out.mono ?_
            rintro e w5 ⟨rfl, k5, HB5⟩
            have HA5 := HA4.kept k5 (Or.inl (by omega))
            have HC5 := HC4.kept k5 (Or.inr (by omega))
            have hG5 := Only.on hG4 k5 (by omega)
            clear C2 HA4 HC4 hG4 k5
            cases pc
            all_goals
              go_wp2
              go_roundw
              case rel => exact ⟨j + 1, _, _, by omega, by go_num, hPQ', HA5, HB5, HC5, hG5⟩
              case measure => simp [intOf]; omega
          · have e1 : (kind == 1) = false := by rw [beq_eq_false_iff_ne]; exact hk1
            go_wp2
            go_roundw
            case rel => exact ⟨j + 1, _, _, by omega, by go_num, hPQ, HA3, HB3, HC3, hG3⟩
            case measure => simp [intOf]; omega
      · have hl1 : li = 1 := by omega
        subst hl1
        have hkm : (ev + 1) % 2 = 1 := by omega
        generalize hev1 : ev + 1 = od at *
        have hkP : od ∉ P := fun h => by have := hPQ.out.1 od h; omega
        have hk64 : od < 64 := by omega
        have hor1 : bits .or .i64 (ev : Int) 1 = (od : Int) := hor
        have hm11 : bits .and .i64 lz 1 = 1 := hm1
        clear hev1 hor hm1
        by_cases hk0 : kind = 0
        · subst hk0
          have c1 := push1 od HA3 hk64 hkP
          obtain ⟨pc, hpc⟩ : ∃ pc, Q.contains od = pc := ⟨_, rfl⟩
          rw [hpc] at c1
          have HPC := Lib.hid hpc
          have C1 : Hid (Calls Try.prog 13 #[.pointer (some ⟨la + 4, 0, none⟩), .int .i64 1, .int .i64 (od : Int)] _ _) := Lib.hid c1
          clear c1 hpc
          have hPQ' := Lib.hid (parity_push1 hPQ.out hkm)
          clear HA3
          go_wp2_with fail
          refine C1.out.mono ?_
          rintro e w4 ⟨rfl, k4, HA4⟩
          have HB4 := HB3.kept k4 (Or.inr (by omega))
          have HC4 := HC3.kept k4 (Or.inr (by omega))
          have hG4 := Only.on hG3 k4 hW1
          clear C1 HB3 HC3 hG3 k4
          have c2 := push1 od HC4 hk64 (by simp)
          rw [HPC.out] at c2
          have C2 : Hid (Calls Try.prog 13 #[.pointer (some ⟨lc + 4, 0, none⟩), .int .i64 1, .int .i64 (od : Int)] w4 _) := Lib.hid c2
          clear c2
          clear HC4
          go_wp2_with fail
          refine C2.out.mono ?_
          rintro e w5 ⟨rfl, k5, HC5⟩
          have HA5 := HA4.kept k5 (Or.inl (by omega))
          have HB5 := HB4.kept k5 (Or.inl (by omega))
          have hG5 := Only.on hG4 k5 (by omega)
          clear C2 HA4 HB4 hG4 k5
          cases pc
          all_goals
            go_wp2
            go_roundw
            case rel => exact ⟨j + 1, _, _, by omega, by go_num, hPQ', HA5, HB5, HC5, hG5⟩
            case measure => simp [intOf]; omega
        · have e0 : (kind == 0) = false := by rw [beq_eq_false_iff_ne]; exact hk0
          by_cases hk1 : kind = 1
          · subst hk1
            have c1 := pull1 od HA3 hkP
            obtain ⟨pc, hpc⟩ : ∃ pc, Q.contains od = pc := ⟨_, rfl⟩
            rw [hpc] at c1
            have HPC := Lib.hid hpc
            have C1 : Hid (Calls Try.prog 15 #[.pointer (some ⟨la + 4, 0, none⟩), .int .i64 (od : Int)] _ _) := Lib.hid c1
            clear c1 hpc
            have hPQ' := Lib.hid (parity_pull1 (k := od) hPQ.out)
            clear HA3
            go_wp2_with fail
            refine C1.out.mono ?_
            rintro e w4 ⟨rfl, k4, HA4⟩
            have HB4 := HB3.kept k4 (Or.inr (by omega))
            have HC4 := HC3.kept k4 (Or.inr (by omega))
            have hG4 := Only.on hG3 k4 hW1
            clear C1 HB3 HC3 hG3 k4
            have c2 := pull1 od HC4 (by simp)
            rw [HPC.out] at c2
            have C2 : Hid (Calls Try.prog 15 #[.pointer (some ⟨lc + 4, 0, none⟩), .int .i64 (od : Int)] w4 _) := Lib.hid c2
            clear c2
            clear HC4
            go_wp2_with fail
            refine C2.out.mono ?_
            rintro e w5 ⟨rfl, k5, HC5⟩
            have HA5 := HA4.kept k5 (Or.inl (by omega))
            have HB5 := HB4.kept k5 (Or.inl (by omega))
            have hG5 := Only.on hG4 k5 (by omega)
            clear C2 HA4 HB4 hG4 k5
            cases pc
            all_goals
              go_wp2
              go_roundw
              case rel => exact ⟨j + 1, _, _, by omega, by go_num, hPQ', HA5, HB5, HC5, hG5⟩
              case measure => simp [intOf]; omega
          · have e1 : (kind == 1) = false := by rw [beq_eq_false_iff_ne]; exact hk1
            go_wp2
            go_roundw
            case rel => exact ⟨j + 1, _, _, by omega, by go_num, hPQ, HA3, HB3, HC3, hG3⟩
            case measure => simp [intOf]; omega
    · have hP50 := HA.few 0 (by decide)
      have hQ50 := HA.few 1 (by decide)
      rw [two_zero] at hP50
      rw [two_one] at hQ50
      have C1 : Hid (Calls Try.prog 19 #[.pointer (some ⟨la + 4, 0, none⟩), .int .i64 0] wr _) := Lib.hid (all_in 0 HA (by decide))
      go_wp2_with fail
      refine C1.out.mono ?_
      rintro e w1 ⟨r1, c1, rfl, k1, R1⟩
      rw [two_zero] at R1 ⊢
      have HA1 := HA.kept (Only.of_none (lo := 0) (hi := 0) k1) (Or.inr (by omega))
      have HB1 := HB.kept (Only.of_none (lo := 0) (hi := 0) k1) (Or.inr (by omega))
      have HC1 := HC.kept (Only.of_none (lo := 0) (hi := 0) k1) (Or.inr (by omega))
      have hG1 := grow_to hG k1
      clear HA HB HC hG k1 C1
      have C2 : Hid (Calls Try.prog 19 #[.pointer (some ⟨lb + 4, 0, none⟩), .int .i64 0] w1 _) := Lib.hid (all_in 0 HB1 (by decide))
      go_wp2_with fail
      refine C2.out.mono ?_
      rintro e w2 ⟨r2, c2, rfl, k2, R2⟩
      rw [two_zero] at R2 ⊢
      have HA2 := HA1.kept (Only.of_none (lo := 0) (hi := 0) k2) (Or.inr (by omega))
      have HB2 := HB1.kept (Only.of_none (lo := 0) (hi := 0) k2) (Or.inr (by omega))
      have HC2 := HC1.kept (Only.of_none (lo := 0) (hi := 0) k2) (Or.inr (by omega))
      have hG2 := grow_to hG1 k2
      have C3 := Lib.hid (same_yes (R1.kept k2 (by simp)).reads R2.reads (by omega))
      clear HA1 HB1 HC1 hG1 k2 C2 R1 R2
      go_wp2_with fail
      refine C3.out.mono ?_
      rintro e w3 ⟨rfl, k3⟩
      have HA3 := HA2.kept (Only.of_none (lo := 0) (hi := 0) k3) (Or.inr (by omega))
      have HB3 := HB2.kept (Only.of_none (lo := 0) (hi := 0) k3) (Or.inr (by omega))
      have HC3 := HC2.kept (Only.of_none (lo := 0) (hi := 0) k3) (Or.inr (by omega))
      have hG3 := grow_to hG2 k3
      clear HA2 HB2 HC2 hG2 k3 C3
      have C4 : Hid (Calls Try.prog 19 #[.pointer (some ⟨la + 4, 0, none⟩), .int .i64 1] w3 _) := Lib.hid (all_in 1 HA3 (by decide))
      go_wp2_with fail
      refine C4.out.mono ?_
      rintro e w4 ⟨r4, c4, rfl, k4, R4⟩
      rw [two_one] at R4 ⊢
      have HA4 := HA3.kept (Only.of_none (lo := 0) (hi := 0) k4) (Or.inr (by omega))
      have HB4 := HB3.kept (Only.of_none (lo := 0) (hi := 0) k4) (Or.inr (by omega))
      have HC4 := HC3.kept (Only.of_none (lo := 0) (hi := 0) k4) (Or.inr (by omega))
      have hG4 := grow_to hG3 k4
      clear HA3 HB3 HC3 hG3 k4 C4
      have C5 : Hid (Calls Try.prog 19 #[.pointer (some ⟨lc + 4, 0, none⟩), .int .i64 1] w4 _) := Lib.hid (all_in 1 HC4 (by decide))
      go_wp2_with fail
      refine C5.out.mono ?_
      rintro e w5 ⟨r5, c5, rfl, k5, R5⟩
      rw [two_one] at R5 ⊢
      have HA5 := HA4.kept (Only.of_none (lo := 0) (hi := 0) k5) (Or.inr (by omega))
      have HB5 := HB4.kept (Only.of_none (lo := 0) (hi := 0) k5) (Or.inr (by omega))
      have HC5 := HC4.kept (Only.of_none (lo := 0) (hi := 0) k5) (Or.inr (by omega))
      have hG5 := grow_to hG4 k5
      have C6 := Lib.hid (same_yes (R4.kept k5 (by simp)).reads R5.reads (by omega))
      clear HA4 HB4 HC4 hG4 k5 C5 R4 R5
      go_wp2_with fail
      refine C6.out.mono ?_
      rintro e w6 ⟨rfl, k6⟩
      have HA6 := HA5.kept (Only.of_none (lo := 0) (hi := 0) k6) (Or.inr (by omega))
      have HB6 := HB5.kept (Only.of_none (lo := 0) (hi := 0) k6) (Or.inr (by omega))
      have HC6 := HC5.kept (Only.of_none (lo := 0) (hi := 0) k6) (Or.inr (by omega))
      have hG6 := grow_to hG5 k6
      have D1 : Hid (Calls Try.prog 21 #[.pointer (some ⟨la + 4, 0, none⟩), .int .i64 0] w6 fun e w' => e = .returned (.int .i64 (P.length : Nat)) ∧ w6 = w') := Lib.hid (len_in 0 HA6 (by decide))
      have D2 : Hid (Calls Try.prog 21 #[.pointer (some ⟨lb + 4, 0, none⟩), .int .i64 0] w6 fun e w' => e = .returned (.int .i64 (P.length : Nat)) ∧ w6 = w') := Lib.hid (len_in 0 HB6 (by decide))
      have D3 : Hid (Calls Try.prog 21 #[.pointer (some ⟨la + 4, 0, none⟩), .int .i64 1] w6 fun e w' => e = .returned (.int .i64 (Q.length : Nat)) ∧ w6 = w') := Lib.hid (len_in 1 HA6 (by decide))
      have D4 : Hid (Calls Try.prog 21 #[.pointer (some ⟨lc + 4, 0, none⟩), .int .i64 1] w6 fun e w' => e = .returned (.int .i64 (Q.length : Nat)) ∧ w6 = w') := Lib.hid (len_in 1 HC6 (by decide))
      clear HA5 HB5 HC5 hG5 k6 C6 HA6 HB6 HC6
      generalize P.length = pl at *
      generalize Q.length = ql at *
      go_wp2_with fail
      refine (D1.out).mono ?_
      rintro e w' ⟨rfl, rfl⟩
      go_wp2_with fail
      refine (D2.out).mono ?_
      rintro e w' ⟨rfl, rfl⟩
      go_wp2_with fail
      refine (D3.out).mono ?_
      rintro e w' ⟨rfl, rfl⟩
      go_wp2_with fail
      refine (D4.out).mono ?_
      rintro e w' ⟨rfl, rfl⟩
      go_wp2
      go_ret
      exact ⟨rfl, hG6⟩

end Go.Proofs.Ytgbodembcnppaaa
