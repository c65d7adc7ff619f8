/-
  Contracts of package bits, continued: New, Count, Next and Gap, over this seat's translation.
-/
import Derived.Test.YtkkodhjolgcokaaDoorBit
namespace Go.Proofs.YtkkodhjolgcokaaDoor
open Go.RowKit Go.Lib
set_option maxRecDepth 100000

set_option maxHeartbeats 400000 in
theorem within_in (b k n : Nat) (w : World) (hk : k < n) (hc : w.cell? ⟨b, 0, none⟩ = some (.int .i64 n)) :
    Calls Tryd.prog 77 #[.pointer (some ⟨b, 0, none⟩), .int .i64 k] w fun e w' => e = .returned (.tuple #[.int .i64 k, .bool true]) ∧ w = w' := by
  go_enter Tryd.func77, Tryd.ntmps77
  go_wp2_with fail
  refine (fits_in b k n _ hk hc).mono ?_
  rintro e w' ⟨rfl, rfl⟩
  go_wp2
  go_ret2
  exact ⟨rfl, rfl⟩
set_option maxHeartbeats 400000 in
theorem within_out (b k n : Nat) (w : World) (hk : n ≤ k) (hc : w.cell? ⟨b, 0, none⟩ = some (.int .i64 n)) :
    Calls Tryd.prog 77 #[.pointer (some ⟨b, 0, none⟩), .int .i64 k] w fun e w' => e = .returned (.tuple #[.int .i64 0, .bool false]) ∧ w = w' := by
  go_enter Tryd.func77, Tryd.ntmps77
  go_wp2_with fail
  refine (fits_out b n k _ (by omega) hc).mono ?_
  rintro e w' ⟨rfl, rfl⟩
  go_wp2
  go_ret2
  exact ⟨rfl, rfl⟩

set_option maxHeartbeats 1000000 in
theorem count_any (b g n : Nat) (S : Nat → Bool) (w : World) (h : SetAt w b g n S) :
    Calls Tryd.prog 56 #[.pointer (some ⟨b, 0, none⟩)] w fun e w' => e = .returned (.int .i64 (cnt S n : Nat)) ∧ w = w' := by
  have h1 := h.c1
  have hsz := h.size
  have HW := Lib.hid h.cw
  have HE := Lib.hid (cnt_beyond S n (64 * ((n + 63) / 64)) (by omega) h.bound)
  clear h
  obtain ⟨l, hl⟩ : ∃ l, l = (n + 63) / 64 := ⟨_, rfl⟩
  rw [← hl] at h1 HW HE
  have hl64 : l ≤ 64 := by omega
  clear hl
  go_enter Tryd.func56, Tryd.ntmps56
  go_wp2
  go_loop [3, 11] (fun c i => ∃ j : Nat, j ≤ l ∧ i = .int .i64 j ∧ c = .int .i64 (cnt S (64 * j) : Nat)) (fun _ i => l - (intOf i).toNat)
  case atStart => exact ⟨0, Nat.zero_le _, rfl, rfl⟩
  case round =>
    obtain ⟨j, hj, rfl, rfl⟩ := hrel
    by_cases hlt : j < l
    · have hc := HW.out j hlt
      have hwl := word_lt S j
      have hn := cnt_words S j
      have hb1 := cnt_le S (64 * j)
      have hb2 := cnt_le (fun i => (word S j).testBit i) 64
      have HO := Lib.hid (ones_any (word S j) w hwl)
      have HN := Lib.hid hn
      clear hn
      generalize word S j = wd at *
      generalize cnt (fun i => wd.testBit i) 64 = c1 at *
      generalize cnt S (64 * j) = c0 at *
      go_wp2_with fail
      refine HO.out.mono ?_
      rintro e w' ⟨rfl, rfl⟩
      go_wp2
      go_round
      case rel => exact ⟨j + 1, by omega, by go_num, by rw [HN.out]; go_num⟩
      case measure => simp [intOf]; omega
    · have he : j = l := by omega
      subst he
      clear HW
      go_wp2
      go_ret
      exact ⟨ret_int (by rw [HE.out]), rfl⟩

/-- What least answers: the least number of P from k on, below n, or none. -/
def LeastPost (P : Nat → Bool) (n k : Nat) (w : World) (e : Ending) (w' : World) : Prop :=
  w = w' ∧ ((∃ p, k ≤ p ∧ p < n ∧ P p = true ∧ (∀ q, k ≤ q → q < p → P q = false) ∧ e = .returned (.tuple #[.int .i64 p, .bool true])) ∨
    ((∀ q, k ≤ q → q < n → P q = false) ∧ e = .returned (.tuple #[.int .i64 0, .bool false])))

theorem mask_start (pw : Nat) (h0 : 0 < pw) (h : pw < 18446744073709551616) : bits .xor .u64 IntKind.u64.max ((pw : Int) - 1) = ((18446744073709551616 - pw : Nat) : Int) := by
  have e := bits_xor_u64_nat 18446744073709551615 (pw - 1) (by omega) (by omega)
  rw [show ((18446744073709551615 : Nat) : Int) = IntKind.u64.max from rfl, show ((pw - 1 : Nat) : Int) = (pw : Int) - 1 by omega] at e
  rw [e]
  congr 1
  have hx : 18446744073709551615 ^^^ (pw - 1) = 18446744073709551615 - (pw - 1) := by
    apply Nat.eq_of_testBit_eq; intro i
    have h1 : (18446744073709551615).testBit i = decide (i < 64) := Nat.testBit_two_pow_sub_one 64 i
    rw [Nat.testBit_xor, h1, not_bit _ _ (by omega)]
    by_cases hi : i < 64
    · simp [hi]
    · have : (pw - 1).testBit i = false := Nat.testBit_lt_two_pow (Nat.lt_of_lt_of_le (show pw - 1 < 2 ^ 64 by omega) (Nat.pow_le_pow_right (by decide) (by omega)))
      simp [hi, this]
  rw [hx]; omega

set_option maxHeartbeats 2000000 in
theorem least_in (b g n k flip : Nat) (kk : Int) (S P : Nat → Bool) (w : World) (hkk : (0 ≤ kk ∧ kk = k) ∨ (kk < 0 ∧ k = 0)) (h : SetAt w b g n S) (hT : TabAt w) (hk : k < n) (hfl : flip < 18446744073709551616) (hP : ∀ j, word S j ^^^ flip = word P j) :
    Calls Tryd.prog 61 #[.pointer (some ⟨b, 0, none⟩), .int .i64 kk, .int .u64 flip] w (LeastPost P n k w) := by
  have h0 := h.c0
  have h1 := h.c1
  have hsz := h.size
  have HW := Lib.hid h.cw
  have HT := Lib.hid hT
  have HP := Lib.hid hP
  clear h hT hP
  obtain ⟨l, hl⟩ : ∃ l, l = (n + 63) / 64 := ⟨_, rfl⟩
  rw [← hl] at h1 HW
  have hl64 : l ≤ 64 := by omega
  have hkl : k / 64 < l := by omega
  have hnl : n ≤ 64 * l := by omega
  clear hl
  have hk0 : ¬ (k : Int) < 0 := by omega
  have HB : Hid (∀ W : World, Calls Tryd.prog 63 #[.int .i64 k] W fun e w' => e = .returned (.int .u64 ((2 ^ (k % 64) : Nat) : Int)) ∧ W = w') := Lib.hid fun W => (bit_any k W (by omega)).mono fun _ _ ⟨a, c⟩ => ⟨a, c.symm⟩
  have hpl := pow_lt (k % 64) (Nat.mod_lt _ (by decide))
  have hp0 : 0 < 2 ^ (k % 64) := Nat.two_pow_pos _
  have HM := Lib.hid (show from64 (k % 64) = 18446744073709551616 - 2 ^ (k % 64) from rfl)
  generalize 2 ^ (k % 64) = pw at *
  have key : ∀ kk : Int, ((0 ≤ kk ∧ kk = k) ∨ (kk < 0 ∧ k = 0)) → Calls Tryd.prog 61 #[.pointer (some ⟨b, 0, none⟩), .int .i64 kk, .int .u64 flip] w (LeastPost P n k w) := by
   intro kk hkk
   rcases hkk with ⟨hkk, rfl⟩ | ⟨hkk, hkz⟩
   focus
     go_enter Tryd.func61, Tryd.ntmps61
     go_wp2_with fail
   rotate_left
   focus
     have hkz' := Lib.hid (show (0 : Int) = (k : Int) by omega)
     clear hkz
     go_enter Tryd.func61, Tryd.ntmps61
     go_wp2_with fail
     rw [hkz'.out]
   all_goals
    refine (fits_in b k n _ hk h0).mono ?_
    rintro e w' ⟨rfl, rfl⟩
    go_wp2_with fail
    refine (HB.out _).mono ?_
    rintro e w' ⟨rfl, rfl⟩
    go_wp2
    go_loop [8, 9] (fun mt it => ∃ j mk : Nat, j ≤ l ∧ mk < 64 ∧ k ≤ 64 * j + mk ∧ it = .int .i64 j ∧ mt = .int .u64 (from64 mk : Nat) ∧ Hid (∀ q, k ≤ q → q < 64 * j + mk → P q = false)) (fun _ it => l - (intOf it).toNat)
    case atStart => exact ⟨k / 64, k % 64, by omega, Nat.mod_lt _ (by decide), by omega, by go_num, by rw [HM.out, ← mask_start pw hp0 hpl], Lib.hid fun q h1 h2 => by omega⟩
    case round =>
      obtain ⟨j, mk, hj, hmk, hkj, rfl, rfl, hno⟩ := hrel
      by_cases hlt : j < l
      · have hc := HW.out j hlt
        have hwl := word_lt S j
        have hx1 : bits .xor .u64 (word S j : Int) (flip : Int) = (word P j : Int) := by rw [bits_xor_u64_nat _ _ hwl hfl, HP.out]
        have hx2 : bits .and .u64 (word P j : Int) (from64 mk : Int) = ((word P j &&& from64 mk : Nat) : Int) := bits_and_u64_nat _ _ (word_lt P j) (from_lt mk)
        have hxl : word P j &&& from64 mk < 18446744073709551616 := Nat.lt_of_le_of_lt Nat.and_le_left (word_lt P j)
        have HZ := Lib.hid (masked_zero P j mk hmk)
        have HBT := Lib.hid (fun i => masked_bit P j mk i hmk)
        generalize word P j &&& from64 mk = x at *
        generalize from64 mk = fm at *
        generalize word P j = wp at *
        generalize word S j = wd at *
        by_cases hx0 : x = 0
        · have hz := HZ.out hx0
          subst hx0
          clear HBT HZ
          have hz2 : Hid (∀ q, k ≤ q → q < 64 * (j + 1) + 0 → P q = false) := Lib.hid fun q h1 h2 => by
            by_cases h3 : q < 64 * j + mk
            · exact hno.out q h1 h3
            · have := hz (q - 64 * j) (by omega) (by omega)
              rwa [show 64 * j + (q - 64 * j) = q by omega] at this
          clear hz
          go_wp2
          go_round
          case rel => exact ⟨j + 1, 0, by omega, by omega, by omega, by go_num, by rw [from_zero]; rfl, hz2⟩
          case measure => simp [intOf]; omega
        · obtain ⟨b1, b2, b3⟩ := lowest x hx0 hxl
          have HTZ := Lib.hid (tz_any x w hx0 hxl HT.out)
          have hne : ((x : Int) != 0) = true := by simp; omega
          have hc1 := HBT.out (ctz 64 x)
          rw [b1] at hc1
          have hmc : mk ≤ ctz 64 x := by
            have := hc1.symm
            simp only [Bool.and_eq_true, decide_eq_true_eq] at this
            exact this.1.1
          have hPc : P (64 * j + ctz 64 x) = true := by
            have := hc1.symm
            simp only [Bool.and_eq_true, decide_eq_true_eq] at this
            exact this.2
          have hlow : ∀ q, k ≤ q → q < 64 * j + ctz 64 x → P q = false := fun q h1 h2 => by
            by_cases h3 : q < 64 * j + mk
            · exact hno.out q h1 h3
            · have h4 := HBT.out (q - 64 * j)
              rw [b2 _ (by omega)] at h4
              rw [show 64 * j + (q - 64 * j) = q by omega] at h4
              simpa [show mk ≤ q - 64 * j by omega, show q - 64 * j < 64 by omega] using h4.symm
          have H1 := Lib.hid hPc
          have H2 := Lib.hid hlow
          clear hPc hlow hc1 b1 b2 HZ HBT hx0 hno
          generalize ctz 64 x = c at *
          by_cases hin : 64 * j + c < n
          · go_wp2_with fail
            refine HTZ.out.mono ?_
            rintro e w' ⟨rfl, rfl⟩
            go_wp2_with fail
            rw [show (j : Int) * 64 + (c : Int) = ((64 * j + c : Nat) : Int) by omega]
            refine (within_in b (64 * j + c) n _ hin h0).mono ?_
            rintro e w' ⟨rfl, rfl⟩
            go_wp2
            go_ret2
            exact ⟨rfl, Or.inl ⟨64 * j + c, by omega, hin, H1.out, H2.out, rfl⟩⟩
          · go_wp2_with fail
            refine HTZ.out.mono ?_
            rintro e w' ⟨rfl, rfl⟩
            go_wp2_with fail
            rw [show (j : Int) * 64 + (c : Int) = ((64 * j + c : Nat) : Int) by omega]
            refine (within_out b (64 * j + c) n _ (by omega) h0).mono ?_
            rintro e w' ⟨rfl, rfl⟩
            go_wp2
            go_ret2
            exact ⟨rfl, Or.inr ⟨fun q h1 h2 => H2.out q h1 (by omega), rfl⟩⟩
      · go_wp2
        go_ret2
        exact ⟨rfl, Or.inr ⟨fun q h1 h2 => hno.out q h1 (by omega), rfl⟩⟩
  exact key kk hkk

theorem least_out (b g n flip : Nat) (kk : Int) (S P : Nat → Bool) (w : World) (h : SetAt w b g n S) (hk : n ≤ kk.toNat) :
    Calls Tryd.prog 61 #[.pointer (some ⟨b, 0, none⟩), .int .i64 kk, .int .u64 flip] w (LeastPost P n kk.toNat w) := by
  have h0 := h.c0
  clear h
  by_cases h2 : kk < 0
  · have hn : n = 0 := by omega
    go_enter Tryd.func61, Tryd.ntmps61
    go_wp2_with fail
    refine (fits_out b n 0 _ (by omega) h0).mono ?_
    rintro e w' ⟨rfl, rfl⟩
    go_wp2
    go_ret2
    exact ⟨rfl, Or.inr ⟨fun q h1 h2 => by omega, rfl⟩⟩
  · have h3 : 0 ≤ kk := by omega
    go_enter Tryd.func61, Tryd.ntmps61
    go_wp2_with fail
    refine (fits_out b n kk _ (by omega) h0).mono ?_
    rintro e w' ⟨rfl, rfl⟩
    go_wp2
    go_ret2
    exact ⟨rfl, Or.inr ⟨fun q h1 h2 => by omega, rfl⟩⟩

theorem least_any (b g n flip : Nat) (kk : Int) (S P : Nat → Bool) (w : World) (h : SetAt w b g n S) (hT : TabAt w) (hfl : flip < 18446744073709551616) (hP : ∀ j, word S j ^^^ flip = word P j) :
    Calls Tryd.prog 61 #[.pointer (some ⟨b, 0, none⟩), .int .i64 kk, .int .u64 flip] w (LeastPost P n kk.toNat w) := by
  by_cases hk : kk.toNat < n
  · exact least_in b g n kk.toNat flip kk S P w (by omega) h hT hk hfl hP
  · exact least_out b g n flip kk S P w h (by omega)

theorem post2 {P : Nat → Bool} {n k : Nat} {w : World} {e : Ending} {w' : World} (h : LeastPost P n k w e w') :
    ∃ (v : Nat) (ok : Bool), e = .returned (.tuple #[.int .i64 v, .bool ok]) ∧ w = w' ∧ LeastPost P n k w (.returned (.tuple #[.int .i64 v, .bool ok])) w := by
  obtain ⟨hw, ⟨p, h1, h2, h3, h4, rfl⟩ | ⟨h1, rfl⟩⟩ := h
  · exact ⟨p, true, rfl, hw, rfl, Or.inl ⟨p, h1, h2, h3, h4, rfl⟩⟩
  · exact ⟨0, false, rfl, hw, rfl, Or.inr ⟨h1, rfl⟩⟩


set_option maxHeartbeats 400000 in
theorem gap_any (b g n : Nat) (kk : Int) (S : Nat → Bool) (w : World) (h : SetAt w b g n S) (hT : TabAt w) :
    Calls Tryd.prog 37 #[.pointer (some ⟨b, 0, none⟩), .int .i64 kk] w (LeastPost (fun i => !S i) n kk.toNat w) := by
  have c : Calls Tryd.prog 61 #[.pointer (some ⟨b, 0, none⟩), .int .i64 kk, .int .u64 18446744073709551615] w (LeastPost (fun i => !S i) n kk.toNat w) := least_any b g n 18446744073709551615 kk S (fun i => !S i) w h hT (by omega) (fun j => word_xor_all S j)
  have C := Lib.hid c
  clear c h hT
  go_enter Tryd.func37, Tryd.ntmps37
  go_wp2_with fail
  refine C.out.mono ?_
  intro e w' hp
  obtain ⟨v, ok, rfl, rfl, hp2⟩ := post2 hp
  have HP := Lib.hid hp2
  clear hp hp2
  go_wp2
  go_ret2
  exact HP.out

/-- The size that New makes of a number. -/
def clampN (size : Int) : Nat := (max 0 (min size 4096)).toNat

theorem made_at (z : Value) (n j : Nat) (h : j < n) : (madeCells #[z] n)[j]? = some z := by
  simp [madeCells, h, Nat.mod_one]
theorem make_words (n : Nat) (hn : n ≤ 4096) (w : World) :
    (Instr.makeSlice 23 (.int .i64 (((n : Int) + 64 - 1) / 64)) (.int .i64 (((n : Int) + 64 - 1) / 64))).run Tryd.prog w =
      .ok (.slice (some ⟨w.heap.size, 0, none⟩) ((n + 63) / 64) ((n + 63) / 64)) (w.alloc (.cells (madeCells #[.int .u64 0] ((n + 63) / 64)) 22)) := by
  obtain ⟨i, hi, hz⟩ : ∃ i : TypeInfo, Tryd.prog.info? 22 = some i ∧ i.zero = some (.int .u64 0) ∧ i.bytes = 8 ∧ i.size = 1 := ⟨_, rfl, rfl, rfl, rfl⟩
  have h := run_make (P := Tryd.prog) w 23 22 i _ Tryd.underlying23 hi hz.1 .i64 .i64 (((n : Int) + 64 - 1) / 64) (((n : Int) + 64 - 1) / 64) (by omega) (by omega) (by rw [hz.2.1]; omega) (by omega)
  rw [hz.2.2, Nat.mul_one, show ((((n : Int) + 64 - 1) / 64)).toNat = (n + 63) / 64 by omega] at h
  exact h

set_option maxHeartbeats 400000 in
theorem new_any (size : Int) (w : World) :
    Calls Tryd.prog 34 #[.int .i64 size] w fun e w' => e = .returned (.pointer (some ⟨w.heap.size + 1, 0, none⟩)) ∧ w.grownBy w' none ∧ SetAt w' (w.heap.size + 1) w.heap.size (clampN size) (fun _ => false) := by
  have c := clamp_any size 0 4096 w
  have hn : max 0 (min size 4096) = ((clampN size : Nat) : Int) := by unfold clampN; omega
  have hs : clampN size ≤ 4096 := by unfold clampN; omega
  rw [hn] at c
  generalize clampN size = n at *
  have C := Lib.hid c
  clear c hn
  have hmk := fun W => make_words n hs W
  go_enter Tryd.func34, Tryd.ntmps34
  go_wp2_with fail
  refine (C.out).mono ?_
  rintro e w' ⟨rfl, rfl⟩
  go_wp2
  go_ret
  refine ⟨rfl, (World.grownBy_alloc w _ none).trans (World.grownBy_alloc _ _ none), ?_⟩
  refine ⟨hs, fun _ _ => rfl, by simp, by simp, fun j hj => ?_, fun j hj => ?_, by omega, by simp, by simp; omega⟩
  · rw [word_none, World.cell?_alloc_lt _ _ _ (by simp), World.cell?_alloc_new]
    exact made_at _ _ _ hj
  · simp

end Go.Proofs.YtkkodhjolgcokaaDoor
