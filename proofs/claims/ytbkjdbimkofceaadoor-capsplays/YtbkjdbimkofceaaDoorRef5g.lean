/-
  Contracts of nightjarref05, over this seat's translation: Dead, Of, Live.
-/
import Derived.Test.YtbkjdbimkofceaaDoorRef5f
import Derived.Test.YtbkjdbimkofceaaDoorSame5
import Derived.BigQuiet
namespace Go.Proofs.YtbkjdbimkofceaaDoor
open Go.RowKit Go.Lib
set_option maxRecDepth 100000

/-- How many handles stand for a thing. -/
def ofN (T : Nat → Pl) (kind index : Int) (n : Nat) : Nat := cnt (fun j => (T j).out && decide ((T j).k = kind) && decide ((T j).i = index)) n
theorem cnt_at (P : Nat → Bool) (n : Nat) : cnt P (n + 1) = cnt P n + (if P n then 1 else 0) := by simp only [cnt]; cases P n <;> rfl

section
variable {w : World} {r n cp G : Nat} {T : Nat → Pl}
set_option maxHeartbeats 2000000 in
theorem rdead5 (H : PlAt5 w r n T) (hn : n ≤ 15) :
    Calls Tryd.prog 34 #[.agg #[.slice (some ⟨r, 0, none⟩) n cp, .int .i64 (G : Nat)]] w fun e w' => e = .returned (.int .i64 (deadN T G n : Nat)) ∧ w.grownBy w' none := by
  have ka := World.grownBy_alloc w (.cells #[.slice (some ⟨r, 0, none⟩) n cp, .int .i64 (G : Nat)] 29) none
  have o0 : (w.alloc (.cells #[.slice (some ⟨r, 0, none⟩) n cp, .int .i64 (G : Nat)] 29)).cell? ⟨w.heap.size, 0, none⟩ = some (.slice (some ⟨r, 0, none⟩) n cp) := by simp
  have o1 : (w.alloc (.cells #[.slice (some ⟨r, 0, none⟩) n cp, .int .i64 (G : Nat)] 29)).cell? ⟨w.heap.size, 1, none⟩ = some (.int .i64 (G : Nat)) := by simp
  have hob : w.heap.size < (w.alloc (.cells #[.slice (some ⟨r, 0, none⟩) n cp, .int .i64 (G : Nat)] 29)).heap.size := by simp
  have HP := Lib.hid (H.kept ka)
  have KA := Lib.hid ka
  clear ka H
  unfold deadN
  go_enter Tryd.func34, Tryd.ntmps34
  go_wp2_with fail
  generalize w.alloc (.cells #[.slice (some ⟨r, 0, none⟩) n cp, .int .i64 (G : Nat)] 29) = w1 at *
  generalize w.heap.size = ob at *
  go_loopw [3, 4] (fun cv it wr => ∃ j : Nat, j ≤ n ∧ it = .int .i64 j ∧ cv = .int .i64 (cnt (fun j => !(T j).out && decide (G ≤ (T j).gen)) j : Nat) ∧ w1.grownBy wr none) (fun _ it _ => n - (intOf it).toNat)
  case atStart => exact ⟨0, Nat.zero_le _, rfl, rfl, SR.grow_refl _⟩
  case round =>
    obtain ⟨j, hj, rfl, rfl, hG⟩ := hrel
    have s0 := (hG.cell_far ⟨ob, 0, none⟩ hob (by simp)).trans o0
    have s1 := (hG.cell_far ⟨ob, 1, none⟩ hob (by simp)).trans o1
    by_cases hlt : j < n
    · have qj : (j : Int) < (n : Int) := by omega
      have qj0 : ¬ (j : Int) < 0 := by omega
      obtain ⟨c0, c1, c2, c3, c4⟩ := (HP.out.kept hG).pl j hlt
      have hle := cnt_le (fun j => !(T j).out && decide (G ≤ (T j).gen)) j
      have hst := cnt_at (fun j => !(T j).out && decide (G ≤ (T j).gen)) j
      have HST := Lib.hid hst
      clear hst c2 c3 c4
      generalize cnt (fun j => !(T j).out && decide (G ≤ (T j).gen)) j = c at *
      generalize (T j).out = o at *
      cases o
      · by_cases hge : G ≤ (T j).gen
        · have hge' : ((G : Nat) : Int) ≤ (((T j).gen : Nat) : Int) := by omega
          have q2 : decide (((G : Nat) : Int) ≤ (((T j).gen : Nat) : Int)) = true := by simp; omega
          have hs2 : cnt (fun j => !(T j).out && decide (G ≤ (T j).gen)) (j + 1) = c + 1 := by rw [HST.out]; simp [hge]
          have HS2 := Lib.hid hs2
          clear hs2 HST hge
          go_wp2_with fail
          go_quiet (fail)
          go_wp2
          go_roundw
          case rel => exact ⟨j + 1, by omega, by go_num, by rw [HS2.out]; go_num, hG.trans (⟨rfl, rfl, rfl, Nat.le_refl _, fun _ _ _ => rfl⟩)⟩
          case measure => simp [intOf]; omega
        · have hge' : ¬ ((G : Nat) : Int) ≤ (((T j).gen : Nat) : Int) := by omega
          have q2 : decide (((G : Nat) : Int) ≤ (((T j).gen : Nat) : Int)) = false := by simp; omega
          have hs2 : cnt (fun j => !(T j).out && decide (G ≤ (T j).gen)) (j + 1) = c := by rw [HST.out]; simp [hge]
          have HS2 := Lib.hid hs2
          clear hs2 HST hge
          go_wp2_with fail
          go_quiet (fail)
          go_wp2
          go_roundw
          case rel => exact ⟨j + 1, by omega, by go_num, by rw [HS2.out], hG.trans (⟨rfl, rfl, rfl, Nat.le_refl _, fun _ _ _ => rfl⟩)⟩
          case measure => simp [intOf]; omega
      · have hs2 : cnt (fun j => !(T j).out && decide (G ≤ (T j).gen)) (j + 1) = c := by rw [HST.out]; simp
        have HS2 := Lib.hid hs2
        clear hs2 HST
        go_wp2_with fail
        go_quiet (fail)
        go_wp2
        go_roundw
        case rel => exact ⟨j + 1, by omega, by go_num, by rw [HS2.out], hG.trans (⟨rfl, rfl, rfl, Nat.le_refl _, fun _ _ _ => rfl⟩)⟩
        case measure => simp [intOf]; omega
    · have hje : j = n := by omega
      subst hje
      go_wp2
      go_ret
      exact ⟨rfl, KA.out.trans hG⟩

set_option maxHeartbeats 2000000 in
theorem rof5 (kind index : Int) (H : PlAt5 w r n T) (hn : n ≤ 15) :
    Calls Tryd.prog 36 #[.agg #[.slice (some ⟨r, 0, none⟩) n cp, .int .i64 (G : Nat)], .int .i64 kind, .int .i64 index] w fun e w' => e = .returned (.int .i64 (ofN T kind index n : Nat)) ∧ w.grownBy w' none := by
  have ka := World.grownBy_alloc w (.cells #[.slice (some ⟨r, 0, none⟩) n cp, .int .i64 (G : Nat)] 29) none
  have o0 : (w.alloc (.cells #[.slice (some ⟨r, 0, none⟩) n cp, .int .i64 (G : Nat)] 29)).cell? ⟨w.heap.size, 0, none⟩ = some (.slice (some ⟨r, 0, none⟩) n cp) := by simp
  have hob : w.heap.size < (w.alloc (.cells #[.slice (some ⟨r, 0, none⟩) n cp, .int .i64 (G : Nat)] 29)).heap.size := by simp
  have HP := Lib.hid (H.kept ka)
  have KA := Lib.hid ka
  clear ka H
  unfold ofN
  go_enter Tryd.func36, Tryd.ntmps36
  go_wp2_with fail
  generalize w.alloc (.cells #[.slice (some ⟨r, 0, none⟩) n cp, .int .i64 (G : Nat)] 29) = w1 at *
  generalize w.heap.size = ob at *
  go_loopw [7, 8] (fun cv it wr => ∃ j : Nat, j ≤ n ∧ it = .int .i64 j ∧ cv = .int .i64 (cnt (fun j => (T j).out && decide ((T j).k = kind) && decide ((T j).i = index)) j : Nat) ∧ w1.grownBy wr none) (fun _ it _ => n - (intOf it).toNat)
  case atStart => exact ⟨0, Nat.zero_le _, rfl, rfl, SR.grow_refl _⟩
  case round =>
    obtain ⟨j, hj, rfl, rfl, hG⟩ := hrel
    have s0 := (hG.cell_far ⟨ob, 0, none⟩ hob (by simp)).trans o0
    by_cases hlt : j < n
    · have qj : (j : Int) < (n : Int) := by omega
      obtain ⟨c0, c1, c2, c3, c4⟩ := (HP.out.kept hG).pl j hlt
      have hle := cnt_le (fun j => (T j).out && decide ((T j).k = kind) && decide ((T j).i = index)) j
      have hst := cnt_at (fun j => (T j).out && decide ((T j).k = kind) && decide ((T j).i = index)) j
      have HST := Lib.hid hst
      have k3 := World.grownBy_alloc wr (.cells #[.int .i64 ((T j).gen : Nat), .bool (T j).out, .int .i64 (T j).k, .int .i64 (T j).i, .int .i64 ((T j).r : Nat)] 76) none
      have K3 := Lib.hid (hG.trans k3)
      clear hst k3
      generalize cnt (fun j => (T j).out && decide ((T j).k = kind) && decide ((T j).i = index)) j = c at *
      generalize (T j).out = o at *
      generalize (T j).k = tk at *
      generalize (T j).i = ti at *
      cases o
      · have hs2 : cnt (fun j => (T j).out && decide ((T j).k = kind) && decide ((T j).i = index)) (j + 1) = c := by rw [HST.out]; simp
        have HS2 := Lib.hid hs2
        clear hs2 HST
        go_wp2
        go_roundw
        case rel => exact ⟨j + 1, by omega, by go_num, by rw [HS2.out], K3.out⟩
        case measure => simp [intOf]; omega
      · by_cases h1 : tk = kind
        · by_cases h2 : ti = index
          · have hs2 : cnt (fun j => (T j).out && decide ((T j).k = kind) && decide ((T j).i = index)) (j + 1) = c + 1 := by rw [HST.out]; simp [h1, h2]
            have HS2 := Lib.hid hs2
            subst h1
            subst h2
            clear hs2 HST
            go_wp2
            go_roundw
            case rel => exact ⟨j + 1, by omega, by go_num, by rw [HS2.out]; go_num, K3.out⟩
            case measure => simp [intOf]; omega
          · have hs2 : cnt (fun j => (T j).out && decide ((T j).k = kind) && decide ((T j).i = index)) (j + 1) = c := by rw [HST.out]; simp [h1, h2]
            have h2' : (ti == index) = false := by rw [beq_eq_false_iff_ne]; exact h2
            have HS2 := Lib.hid hs2
            subst h1
            clear hs2 HST
            go_wp2
            go_roundw
            case rel => exact ⟨j + 1, by omega, by go_num, by rw [HS2.out], K3.out⟩
            case measure => simp [intOf]; omega
        · have hs2 : cnt (fun j => (T j).out && decide ((T j).k = kind) && decide ((T j).i = index)) (j + 1) = c := by rw [HST.out]; simp [h1]
          have h1' : (tk == kind) = false := by rw [beq_eq_false_iff_ne]; exact h1
          have HS2 := Lib.hid hs2
          clear hs2 HST
          go_wp2
          go_roundw
          case rel => exact ⟨j + 1, by omega, by go_num, by rw [HS2.out], K3.out⟩
          case measure => simp [intOf]; omega
    · have hje : j = n := by omega
      subst hje
      go_wp2
      go_ret
      exact ⟨rfl, KA.out.trans hG⟩
end
end Go.Proofs.YtbkjdbimkofceaaDoor
