/-
  The walk of the statement BitsGaps: numbers put in by Gap fill the set from below, each once, until there is no gap; taken out, a number is the gap.
-/
import Derived.Test.YtbpmfldegfngaaaDoorBit3
namespace Go.Proofs.YtbpmfldegfngaaaDoor
open Go.RowKit Go.Lib

def below (j : Nat) : Nat → Bool := fun i => decide (i < j)
theorem below_ins (j : Nat) : ins (below j) j = below (j + 1) := by
  funext i
  simp only [ins, below]
  by_cases h : i < j
  · simp [h, show i < j + 1 by omega]
  · by_cases h2 : i = j
    · simp [h2]
    · simp [h, h2, show ¬ i < j + 1 by omega]
theorem below_zero : (fun _ => false) = below 0 := by funext i; simp [below]
theorem cnt_below (n : Nat) : ∀ m, m ≤ n → cnt (below n) m = m
  | 0, _ => rfl
  | m + 1, h => by
    rw [cnt, cnt_below n m (by omega)]
    simp [below, show m < n by omega]
theorem mask127 (n : Int) : ∃ k : Nat, k < 128 ∧ bits .and .i64 n 127 = (k : Int) := ⟨(n % 128).toNat, by omega, by rw [i64_and127]; omega⟩
theorem mask1023 (n : Int) : ∃ k : Nat, k < 1024 ∧ bits .and .i64 n 1023 = (k : Int) := by
  have h := i64_mask 10 (by decide) n
  have e : bits .and .i64 n 1023 = n % 1024 := h
  exact ⟨(n % 1024).toNat, by omega, by rw [e]; omega⟩
theorem clamp_small (n : Nat) (h : n ≤ 4096) : clampN (n : Int) = n := by unfold clampN; omega

set_option maxHeartbeats 4000000 in
theorem gaps_walk (a0 a1 : Int) (w : World) (hT : TabAt w) :
    Calls Tryd.prog 5 #[.int .i64 a0, .int .i64 a1] w fun e w' => e = .returned (.bool true) ∧ w.grownBy w' none := by
  obtain ⟨n, hn, hN⟩ := mask127 a0
  obtain ⟨m, hm, hM⟩ := mask1023 a1
  go_enter Tryd.func5, Tryd.ntmps5
  go_wp2_with fail
  refine (alive2 _ hT).mono ?_
  rintro e w0 ⟨rfl, hG0⟩
  go_wp2_with fail
  refine (new_made n n (clamp_small n (by omega)) _).mono ?_
  rintro e w1 ⟨b, g, rfl, hb, hg, hk1, hs1⟩
  have hG1 := grow_to hG0 hk1
  have hgW : w.heap.size ≤ g := Nat.le_trans hG0.size hg
  have HT := Lib.hid hT
  rw [below_zero] at hs1
  clear hG0 hk1 hb hg hT
  go_wp2
  go_loopw [22] (fun it wr => ∃ j : Nat, j ≤ n ∧ it = .int .i64 j ∧ SetAt wr b g n (below j) ∧ w.grownBy wr none) (fun it _ => n - (intOf it).toNat)
  case atStart => exact ⟨0, Nat.zero_le _, rfl, hs1, hG1⟩
  case round =>
    obtain ⟨j, hj, rfl, hs, hG⟩ := hrel
    have hTr := HT.out.kept hG
    clear hs1 hG1
    by_cases hlt : j < n
    · have c1 : Hid (Calls Tryd.prog 17 #[.pointer (some ⟨b, 0, none⟩), .int .i64 0] wr fun e w' => e = .returned (.tuple #[.int .i64 j, .bool true]) ∧ wr = w') :=
        Lib.hid (least_some (gap_any b g n 0 _ wr hs hTr) j (by simp) hlt (by simp [below]) (fun q h1 h2 => by simp [below]; omega))
      have c2 : Hid (Calls Tryd.prog 12 #[.pointer (some ⟨b, 0, none⟩), .int .i64 j] wr _) := Lib.hid (put_in b g n j _ wr hs hlt (by simp [below]))
      clear hTr
      go_wp2_with fail
      refine (c1.out).mono ?_
      rintro e w' ⟨rfl, rfl⟩
      go_wp2_with fail
      refine c2.out.mono ?_
      rintro e w2 ⟨rfl, k2, hs2⟩
      rw [below_ins] at hs2
      have hG2 := grow_on hG k2 hgW
      clear c1 c2 hs hG k2
      go_wp2
      go_roundw
      case rel => exact ⟨j + 1, by omega, by go_num, hs2, hG2⟩
      case measure => simp [intOf]; omega
    · have he : j = n := by omega
      subst he
      have c1 : Hid (Calls Tryd.prog 17 #[.pointer (some ⟨b, 0, none⟩), .int .i64 0] wr fun e w' => e = .returned (.tuple #[.int .i64 0, .bool false]) ∧ wr = w') :=
        Lib.hid (least_none (gap_any b g j 0 _ wr hs hTr) (fun q h1 h2 => by simp [below]; omega))
      have c2 : Hid (Calls Tryd.prog 20 #[.pointer (some ⟨b, 0, none⟩)] wr fun e w' => e = .returned (.int .i64 j) ∧ wr = w') := by
        have h := count_any b g j _ wr hs
        rw [cnt_below j j (Nat.le_refl _)] at h
        exact Lib.hid h
      by_cases hz : j = 0
      · subst hz
        go_wp2_with fail
        refine (c1.out).mono ?_
        rintro e w' ⟨rfl, rfl⟩
        go_wp2_with fail
        refine (c2.out).mono ?_
        rintro e w' ⟨rfl, rfl⟩
        go_wp2
        go_ret
        exact ⟨rfl, hG⟩
      · have hz' : ((j : Int) == 0) = false := by simp; omega
        have hmj : m % j < j := Nat.mod_lt _ (by omega)
        obtain ⟨o, ho⟩ : ∃ o : Nat, o = m % j := ⟨_, rfl⟩
        rw [← ho] at hmj
        have c3 : Hid (Calls Tryd.prog 14 #[.pointer (some ⟨b, 0, none⟩), .int .i64 o] wr _) := Lib.hid (drop_in b g j o _ wr hs hmj (by simp [below]; omega))
        have HO := Lib.hid (show (m : Int) % (j : Int) = (o : Int) by rw [ho, Int.natCast_emod])
        clear ho
        go_wp2_with fail
        refine (c1.out).mono ?_
        rintro e w' ⟨rfl, rfl⟩
        go_wp2_with fail
        refine (c2.out).mono ?_
        rintro e w' ⟨rfl, rfl⟩
        go_wp2_with fail
        rw [HO.out]
        refine c3.out.mono ?_
        rintro e w2 ⟨rfl, k2, hs2⟩
        have hG2 := grow_on hG k2 hgW
        have hT2 := HT.out.kept hG2
        clear c1 c2 c3 hs hG k2 hTr
        have c4 : Hid (Calls Tryd.prog 17 #[.pointer (some ⟨b, 0, none⟩), .int .i64 0] w2 fun e w' => e = .returned (.tuple #[.int .i64 o, .bool true]) ∧ w2 = w') :=
          Lib.hid (least_some (gap_any b g j 0 _ w2 hs2 hT2) o (by simp) hmj (by simp [del]) (fun q h1 h2 => by simp [del, below]; omega))
        have c5 : Hid (Calls Tryd.prog 17 #[.pointer (some ⟨b, 0, none⟩), .int .i64 ((o : Int) + 1)] w2 fun e w' => e = .returned (.tuple #[.int .i64 0, .bool false]) ∧ w2 = w') :=
          Lib.hid (least_none (gap_any b g j ((o : Int) + 1) _ w2 hs2 hT2) (fun q h1 h2 => by simp [del, below]; omega))
        clear hT2
        go_wp2_with fail
        refine (c4.out).mono ?_
        rintro e w' ⟨rfl, rfl⟩
        go_wp2_with fail
        refine (c5.out).mono ?_
        rintro e w' ⟨rfl, rfl⟩
        go_wp2
        go_ret
        exact ⟨rfl, hG2⟩

end Go.Proofs.YtbpmfldegfngaaaDoor
