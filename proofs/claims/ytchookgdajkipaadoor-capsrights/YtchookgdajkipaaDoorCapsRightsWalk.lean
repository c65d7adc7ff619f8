/-
  The walk of CapsRights, over this seat's translation: for all numbers it answers true, and leaves all that was as it was.
-/
import Derived.Test.YtchookgdajkipaaDoorAlive5
namespace Go.Proofs.YtchookgdajkipaaDoor
open Go.RowKit Go.Lib
set_option maxRecDepth 100000

/-- What a round asks. -/
theorem andnot_i64 (a b : Int) : (bits .andNot .i64 a b = 0) ∨ ¬ (bits .andNot .i64 a b = 0) := Classical.em _
theorem wrap_next (k : Int) : ¬ (k = wrap64 (k + 1)) := by unfold wrap64; omega

set_option maxRecDepth 100000 in
set_option maxHeartbeats 4000000 in
theorem rights5_walk (kind index rights x y : Int) (w : World) (hT : TabAt w) :
    Calls Tryd.prog 9 #[.int .i64 kind, .int .i64 index, .int .i64 rights, .int .i64 x, .int .i64 y] w fun e w' => e = .returned (.bool true) ∧ w.grownBy w' none := by
  have C0 := Lib.hid (alive5 w hT)
  have HT := Lib.hid hT
  have hp := tab_pos hT
  clear hT
  have m3 : bits .and .i64 rights 255 = ((rights % 256).toNat : Nat) := by rw [and255]; omega
  have l3 : (rights % 256).toNat < 256 := by omega
  generalize (rights % 256).toNat = r at *
  obtain ⟨a, ha⟩ : ∃ a, bits .and .i64 x 255 = a := ⟨_, rfl⟩
  obtain ⟨b, hb⟩ : ∃ b, bits .and .i64 y 255 = b := ⟨_, rfl⟩
  go_enter Tryd.func9, Tryd.ntmps9
  go_wp2_with fail
  refine C0.out.mono ?_
  rintro e w1 ⟨rfl, k1⟩
  have C1 : Hid (Calls Tryd.prog 18 #[.int .i64 1, .int .i64 5] w1 fun e w' => ∃ tb, e = .returned (.pointer (some ⟨tb, 0, none⟩)) ∧ w1.grownBy w' none ∧ Tb w' w1.heap.size w'.heap.size tb 1 5 (fun _ => Pl.fresh)) := Lib.hid (table_made 1 5 w1 (by decide))
  have hw1 := k1.size
  clear C0
  go_wp2_with fail
  refine C1.out.mono ?_
  rintro e w2 ⟨tb, rfl, k2, H⟩
  have k3 := grow_to k1 k2
  have T2 := HT.out.kept k3
  have C2 : Hid (Calls Tryd.prog 20 #[.pointer (some ⟨tb, 0, none⟩), .agg #[.int .i64 kind, .int .i64 index, .int .i64 (r : Nat)]] w2 fun e w' => e = .returned (.tuple #[.int .u64 (hbits 0 1 r : Nat), .int .i64 0]) ∧ Only w1.heap.size w2.heap.size w2 w' ∧ Tb w' w1.heap.size w2.heap.size tb 1 5 (upV (fun _ => Pl.fresh) 0 ⟨1, true, kind, index, r⟩)) := Lib.hid (by
    have := tmint_ok 0 kind index (r : Nat) H T2 (by decide) rfl (by decide) (fun q h => absurd h (Nat.not_lt_zero q))
    have e1 : ((r : Int) % 256).toNat = r := by omega
    simp only [Pl.mint, e1] at this
    exact this)
  clear C1 k1 k2 H T2
  go_wp2_with fail
  refine C2.out.mono ?_
  rintro e w3 ⟨rfl, k4, H⟩
  have k5 := Lib.hid (Only.on k3 k4 hw1)
  clear C2 k3 k4
  have HH := Lib.hid H
  have CN : Hid (∀ (v : World) (kd q : Int), w3.grownBy v none → Calls Tryd.prog 37 #[.pointer (some ⟨tb, 0, none⟩), .int .u64 (hbits 0 1 r : Nat), .int .i64 kd, .int .i64 q] v fun x w' => x = .returned (needV 0 kind index (r : Nat) kd q) ∧ v.grownBy w' none) := Lib.hid fun v kd q kv => by
    have := tneed_in 0 kd q (HH.out.grown kv) (by decide) (by rw [upV_same])
    simp only [upV_same] at this
    exact this
  clear H
  generalize hbits 0 1 r = h at *
  obtain ⟨c1, hO⟩ : ∃ c, bits .or .i64 a b = c := ⟨_, rfl⟩
  obtain ⟨c2, hA⟩ : ∃ c, bits .and .i64 a b = c := ⟨_, rfl⟩
  have kl := World.grownBy_alloc w3 (.cells #[.int .i64 a, .int .i64 b, .int .i64 c1, .int .i64 c2, .int .i64 0, .int .i64 (r : Nat)] 3) none
  have HL : Hid (∀ (v : World) (j : Nat), j < 6 → (w3.alloc (.cells #[.int .i64 a, .int .i64 b, .int .i64 c1, .int .i64 c2, .int .i64 0, .int .i64 (r : Nat)] 3)).grownBy v none → ∃ q : Int, v.cell? ⟨w3.heap.size, j, none⟩ = some (.int .i64 q)) := Lib.hid fun v j hj kv => by
    have e : v.cell? ⟨w3.heap.size, j, none⟩ = _ := (kv.cell_far ⟨w3.heap.size, j, none⟩ (by simp) (by simp)).trans (World.cell?_alloc_new ..)
    match j, hj with
    | 0, _ => exact ⟨_, e⟩
    | 1, _ => exact ⟨_, e⟩
    | 2, _ => exact ⟨_, e⟩
    | 3, _ => exact ⟨_, e⟩
    | 4, _ => exact ⟨_, e⟩
    | 5, _ => exact ⟨_, e⟩
  have KL := Lib.hid kl
  clear kl
  go_wp2_with fail
  generalize w3.alloc (.cells #[.int .i64 a, .int .i64 b, .int .i64 c1, .int .i64 c2, .int .i64 0, .int .i64 (r : Nat)] 3) = w4 at *
  generalize w3.heap.size = lb at *
  go_loopw [51] (fun it wr => ∃ j : Nat, j ≤ 6 ∧ it = .int .i64 j ∧ w4.grownBy wr none) (fun it _ => 6 - (intOf it).toNat)
  case atStart => exact ⟨0, by omega, rfl, SR.grow_refl _⟩
  case round =>
    obtain ⟨j, hj, rfl, hG⟩ := hrel
    by_cases hlt : j < 6
    · obtain ⟨q, hq⟩ := HL.out wr j hlt hG
      have q1 : (j : Int) < 6 := by omega
      have C := CN.out wr kind q (KL.out.trans hG)
      by_cases hz : bits .andNot .i64 q (r : Nat) = 0
      · have hv : needV 0 kind index (r : Nat) kind q = .tuple #[.int .i64 index, .int .i64 0] := by simp [needV, hz]
        rw [hv] at C
        have CC := Lib.hid C
        clear C hv
        go_wp2_with fail
        refine CC.out.mono ?_
        rintro e w5 ⟨rfl, k6⟩
        go_wp2
        go_roundw
        case rel => exact ⟨j + 1, by omega, by go_num, hG.trans k6⟩
        case measure => simp [intOf]; omega
      · have hv : needV 0 kind index (r : Nat) kind q = .tuple #[.int .i64 0, .int .i64 6] := by simp [needV, hz]
        rw [hv] at C
        have CC := Lib.hid C
        clear C hv
        go_wp2_with fail
        refine CC.out.mono ?_
        rintro e w5 ⟨rfl, k6⟩
        go_wp2
        go_roundw
        case rel => exact ⟨j + 1, by omega, by go_num, hG.trans k6⟩
        case measure => simp [intOf]; omega
    · have hj6 : j = 6 := by omega
      subst hj6
      have C := CN.out wr (wrap64 (kind + 1)) 0 (KL.out.trans hG)
      have hv : needV 0 kind index (r : Nat) (wrap64 (kind + 1)) 0 = .tuple #[.int .i64 0, .int .i64 7] := by simp [needV, wrap_next kind]
      rw [hv] at C
      have CC := Lib.hid C
      clear C hv
      go_wp2_with fail
      refine CC.out.mono ?_
      rintro e w5 ⟨rfl, k6⟩
      go_wp2
      go_ret
      exact ⟨rfl, grow_to (grow_to (grow_to k5.out KL.out) hG) k6⟩
end Go.Proofs.YtchookgdajkipaaDoor
