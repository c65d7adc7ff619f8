/-
  The walk of CapsRetires, over this seat's translation: for all numbers it answers true, and leaves all that was as it was.
-/
import Derived.Test.YtchookgdajkipaaDoorAlive5
import Derived.Test.YtchookgdajkipaaDoorCapsLive
namespace Go.Proofs.YtchookgdajkipaaDoor
open Go.RowKit Go.Lib
set_option maxRecDepth 100000

theorem and15 (r : Int) : bits .and .i64 r 15 = r % 16 := by
  have := i64_mask 4 (by decide) r
  simpa using this
theorem and7 (r : Int) : bits .and .i64 r 7 = r % 8 := by
  have := i64_mask 3 (by decide) r
  simpa using this

theorem tlive {w : World} {lo hi tb n G : Nat} {T : Nat → Pl} (H : Tb w lo hi tb n G T) (hT : TabAt w) :
    Calls Tryd.prog 28 #[.pointer (some ⟨tb, 0, none⟩)] w fun e w' => ∃ r cp, e = .returned (.slice (some ⟨r, 0, none⟩) (liveL T n).length cp) ∧ w.grownBy w' none ∧ w'.ownsRow w.heap.size 40 1 (.slice (some ⟨r, 0, none⟩) (liveL T n).length cp) (liveL T n).length (wcells (liveL T n)) := by
  obtain ⟨rb, ro, pb, po, b, g, hb, H, rr, s⟩ := H
  exact live_any H hT

/-- The table when m handles were made and revoked again, one behind the other. -/
def gone (G m : Nat) : Nat → Pl := fun j => ⟨if j < m / G then G else if j = m / G then m % G else 0, false, 0, 0, 0⟩
theorem gone_zero (G : Nat) : gone G 0 = fun _ => Pl.fresh := funext fun j => by simp [gone, Pl.fresh]
theorem gone_next (G m : Nat) (hG : 1 ≤ G) (p : Pl) (hp : p = ⟨m % G + 1, false, 0, 0, 0⟩) : upV (gone G m) (m / G) p = gone G (m + 1) := funext fun j => by
  subst hp
  have h1 : m = G * (m / G) + m % G := (Nat.div_add_mod m G).symm
  have h2 : m % G < G := Nat.mod_lt _ hG
  by_cases hc : m % G + 1 < G
  · have e1 : (m + 1) / G = m / G := by
      rw [h1, Nat.add_assoc, Nat.mul_add_div hG, Nat.div_eq_of_lt hc]
      rw [Nat.mul_add_div hG, Nat.div_eq_of_lt h2]
    have e2 : (m + 1) % G = m % G + 1 := by
      conv => lhs; rw [h1, Nat.add_assoc, Nat.mul_add_mod]
      exact Nat.mod_eq_of_lt hc
    simp only [upV, gone, e1, e2]
    by_cases e : j = m / G
    · simp [e]
    · simp [e]
  · have hG' : m % G + 1 = G := by omega
    have e0 : m + 1 = G * (m / G + 1) := by rw [Nat.mul_add, Nat.mul_one]; omega
    have e1 : (m + 1) / G = m / G + 1 := by rw [e0]; exact Nat.mul_div_cancel_left _ hG
    have e2 : (m + 1) % G = 0 := by rw [e0]; exact Nat.mul_mod_right _ _
    simp only [upV, gone, e1, e2, hG']
    by_cases e : j = m / G
    · subst e; simp
    · by_cases h : j < m / G
      · have : j < m / G + 1 := by omega
        simp [e, h, this]
      · have h3 : ¬ j < m / G + 1 := by omega
        simp [e, h, h3]
theorem cnt_none (P : Nat → Bool) : ∀ n, (∀ j, j < n → P j = false) → cnt P n = 0
  | 0, _ => rfl
  | n + 1, h => by simp [cnt, cnt_none P n (fun j hj => h j (by omega)), h n (by omega)]
theorem cnt_one (P : Nat → Bool) (p : Nat) : ∀ n, p < n → P p = true → (∀ j, j < n → j ≠ p → P j = false) → cnt P n = 1
  | n + 1, hp, h1, h2 => by
    by_cases e : p = n
    · subst e; simp [cnt, h1, cnt_none P p (fun j hj => h2 j (by omega) (by omega))]
    · simp [cnt, cnt_one P p n (by omega) h1 (fun j hj hne => h2 j (by omega) hne), h2 n (by omega) (by omega)]
theorem cnt_all (P : Nat → Bool) : ∀ n, (∀ j, j < n → P j = true) → cnt P n = n
  | 0, _ => rfl
  | n + 1, h => by simp [cnt, cnt_all P n (fun j hj => h j (by omega)), h n (by omega)]

set_option maxRecDepth 100000 in
set_option maxHeartbeats 8000000 in
theorem retires_walk (x y : Int) (w : World) (hT : TabAt w) :
    Calls Tryd.prog 6 #[.int .i64 x, .int .i64 y] w fun e w' => e = .returned (.bool true) ∧ w.grownBy w' none := by
  have C0 := Lib.hid (alive5 w hT)
  have HT := Lib.hid hT
  have hpos := tab_pos hT
  clear hT
  obtain ⟨room, hroom, hr⟩ : ∃ r : Nat, bits .and .i64 x 15 = (r : Int) ∧ r ≤ 15 := ⟨(x % 16).toNat, by rw [and15]; omega, by omega⟩
  obtain ⟨gm, hgm, hg⟩ : ∃ r : Nat, bits .and .i64 y 7 = (r : Int) ∧ r ≤ 7 := ⟨(y % 8).toNat, by rw [and7]; omega, by omega⟩
  obtain ⟨G, hGe, hG1, hG8⟩ : ∃ G : Nat, (1 : Int) + (gm : Int) = (G : Int) ∧ 1 ≤ G ∧ G ≤ 8 := ⟨1 + gm, by omega, by omega, by omega⟩
  have hgo : gensOf (G : Int) = G := by unfold gensOf; omega
  have hmul : (room : Int) * (G : Int) = ((room * G : Nat) : Int) := by simp
  have hmb : room * G ≤ 120 := by
    have := Nat.mul_le_mul hr hG8
    omega
  have HR : Hid (∀ m, m < room * G → m / G < room) := Lib.hid fun m hm => Nat.div_lt_of_lt_mul (by rw [Nat.mul_comm]; exact hm)
  have HD : Hid (room * G / G = room) := Lib.hid (Nat.mul_div_cancel _ hG1)
  have HMD : Hid (room * G % G = 0) := Lib.hid (Nat.mul_mod_left _ _)
  generalize room * G = N at *
  go_enter Tryd.func6, Tryd.ntmps6
  go_wp2_with fail
  refine C0.out.mono ?_
  rintro e w1 ⟨rfl, k1⟩
  have C1 := Lib.hid (table_made room (G : Int) w1 (by omega))
  rw [hgo] at C1
  have hw1 := k1.size
  clear C0
  go_wp2_with fail
  refine C1.out.mono ?_
  rintro e w2 ⟨tb, rfl, k2, H0⟩
  have G0 := grow_to k1 k2
  have H0 : Tb w2 w1.heap.size w2.heap.size tb room G (gone G 0) := H0.same (gone_zero G).symm
  clear C1 k1 k2
  obtain ⟨lo, hlo⟩ : ∃ l, l = w1.heap.size := ⟨_, rfl⟩
  obtain ⟨hi, hhi⟩ : ∃ l, l = w2.heap.size := ⟨_, rfl⟩
  rw [← hlo, ← hhi] at H0
  rw [← hlo] at hw1
  clear hlo hhi
  go_wp2_with fail
  go_loopw [24] (fun it wr => ∃ m : Nat, m ≤ N ∧ it = .int .i64 m ∧ Tb wr lo hi tb room G (gone G m) ∧ w.grownBy wr none) (fun it _ => N - (Go.RowKit.intOf it).toNat)
  case atStart => exact ⟨0, Nat.zero_le _, rfl, H0, G0⟩
  case round =>
    obtain ⟨m, hm, rfl, H1, G1⟩ := hrel
    clear H0 G0
    by_cases hlt : m < N
    · have qm : (m : Int) < (N : Int) := by omega
      have hp := HR.out m hlt
      have hmod : m % G < G := Nat.mod_lt _ hG1
      have T1 := HT.out.kept G1
      have hself : gone G m (m / G) = ⟨m % G, false, 0, 0, 0⟩ := by simp [gone]
      have C : Hid (Calls Tryd.prog 20 #[.pointer (some ⟨tb, 0, none⟩), .agg #[.int .i64 1, .int .i64 m, .int .i64 0]] wr fun e w' => e = .returned (.tuple #[.int .u64 (hbits (m / G) (m % G + 1) 0 : Nat), .int .i64 0]) ∧ Only lo hi wr w' ∧ Tb w' lo hi tb room G (upV (gone G m) (m / G) ⟨m % G + 1, true, 1, m, 0⟩)) := Lib.hid (by
        have := tmint_ok (m / G) 1 (m : Int) 0 H1 T1 hp (by rw [hself]) (by rw [hself]; exact hmod) (fun q hq => by simp [Pl.full, gone, hq])
        rw [hself] at this
        exact this)
      clear H1
      go_wp2_with fail
      refine C.out.mono ?_
      rintro e w3 ⟨rfl, k3, H2⟩
      have G2 := Only.on G1 k3 hw1
      have T2 := HT.out.kept G2
      clear C k3 G1 T1
      have CC : Hid (Calls Tryd.prog 26 #[.pointer (some ⟨tb, 0, none⟩)] w3 fun e w' => e = .returned (.int .i64 1) ∧ w3.grownBy w' none) := Lib.hid (by
        have := tcount H2 T2
        have e1 : liveN (upV (gone G m) (m / G) ⟨m % G + 1, true, 1, m, 0⟩) room = 1 := cnt_one _ (m / G) room hp (by simp [upV]) (fun j _ hne => by simp [upV, hne, gone])
        rw [e1] at this
        exact this)
      go_wp2_with fail
      refine CC.out.mono ?_
      rintro e w4 ⟨rfl, k4⟩
      have H3 := H2.grown k4
      have G3 := G2.trans k4
      clear CC k4 H2 G2 T2
      have CR : Hid (Calls Tryd.prog 23 #[.pointer (some ⟨tb, 0, none⟩), .int .u64 (hbits (m / G) (m % G + 1) 0 : Nat)] w4 fun x w' => x = .returned (.int .i64 0) ∧ Only lo hi w4 w' ∧ Tb w' lo hi tb room G (gone G (m + 1))) := Lib.hid (by
        have := trev_ok (m / G) H3 hp (by simp [upV])
        simp only [upV_same, upV_twice, Pl.drop] at this
        rw [gone_next G m hG1 _ rfl] at this
        exact this)
      clear H3
      go_wp2_with fail
      refine CR.out.mono ?_
      rintro e w5 ⟨rfl, k5, H4⟩
      have G4 := Only.on G3 k5 hw1
      have T4 := HT.out.kept G4
      clear CR k5 G3
      have CC : Hid (Calls Tryd.prog 26 #[.pointer (some ⟨tb, 0, none⟩)] w5 fun e w' => e = .returned (.int .i64 0) ∧ w5.grownBy w' none) := Lib.hid (by
        have := tcount H4 T4
        have e1 : liveN (gone G (m + 1)) room = 0 := cnt_none _ room (fun j _ => by simp [gone])
        rw [e1] at this
        exact this)
      go_wp2_with fail
      refine CC.out.mono ?_
      rintro e w6 ⟨rfl, k6⟩
      have H5 := H4.grown k6
      have G5 := G4.trans k6
      clear CC k6 H4 G4 T4 hself
      go_wp2
      go_roundw
      case rel => exact ⟨m + 1, by omega, by go_num, H5, G5⟩
      case measure => simp [Go.RowKit.intOf]; omega
    · obtain rfl : m = N := by omega
      have T1 := HT.out.kept G1
      have hfull : ∀ q, q < room → (gone G m q).gen = G ∧ (gone G m q).out = false := fun q hq => by simp [gone, HD.out, hq]
      have HF := Lib.hid hfull
      have C := Lib.hid (tmint_no 0 0 0 H1 T1 (fun q hq => by simp [Pl.full, (HF.out q hq).1]))
      clear hfull
      go_wp2_with fail
      refine C.out.mono ?_
      rintro e w3 ⟨rfl, k3⟩
      have H2 := H1.grown k3
      have G2 := G1.trans k3
      have T2 := HT.out.kept G2
      clear C k3 H1 G1 T1
      have CD : Hid (Calls Tryd.prog 27 #[.pointer (some ⟨tb, 0, none⟩)] w3 fun e w' => e = .returned (.int .i64 (room : Nat)) ∧ w3.grownBy w' none) := Lib.hid (by
        have := tdead H2 T2
        have e1 : deadN (gone G m) G room = room := cnt_all _ room (fun j hj => by simp [(HF.out j hj).1, (HF.out j hj).2])
        rw [e1] at this
        exact this)
      go_wp2_with fail
      refine CD.out.mono ?_
      rintro e w4 ⟨rfl, k4⟩
      have H3 := H2.grown k4
      have G3 := G2.trans k4
      have T3 := HT.out.kept G3
      clear CD k4 H2 G2 T2
      have CL : Hid (Calls Tryd.prog 28 #[.pointer (some ⟨tb, 0, none⟩)] w4 fun e w' => ∃ r cp, e = .returned (.slice (some ⟨r, 0, none⟩) 0 cp) ∧ w4.grownBy w' none) := Lib.hid (by
        have e1 : (liveL (gone G m) room).length = 0 := by
          unfold liveL
          rw [List.length_map, List.length_eq_zero_iff, List.filter_eq_nil_iff]
          intro j hj
          simp [(HF.out j (List.mem_range.1 hj)).2]
        refine (tlive H3 T3).mono ?_
        rintro e w' ⟨r, cp, he, hk, _⟩
        rw [e1] at he
        exact ⟨r, cp, he, hk⟩)
      go_wp2_with fail
      refine CL.out.mono ?_
      rintro e w5 ⟨r, cp, rfl, k5⟩
      go_wp2
      go_ret
      exact ⟨rfl, G3.trans k5⟩
end Go.Proofs.YtchookgdajkipaaDoor
