/-
  Texts of one claim, joined, one behind the other.
-/
import Derived.Test.YtkkodhjolgcokaaDoorJoin4
import Derived.ProofKit
import Derived.LaidMore
import Derived.OpenShut
import Derived.Stop.Joined
import Derived.Lib.LaidTab
import Derived.Maps.Range
import Derived.Maps.RangeWalk
import Derived.Deep.DeepCutAuto
import Derived.Deep.CutBlock
import Derived.Deep.Onto
import Derived.OwnWalk
import Derived.Laws.OwnMore
/-
  The listed table's cells out of the row's condition, and the witness's world.
-/
namespace Go.Proofs.YtkkodhjolgcokaaDoor
open Go.ChangeShapes Go.WideShapes Go.ChangeAt Go.RowKit

def tabs : List (String × DataW Unit) := [("math/bits.deBruijn64tab", Rows.laid_math_bits_deBruijn64tab)]
theorem gTab : Tryd.prog.globalNamed "math/bits.deBruijn64tab" = some 0 := by kernel_rfl
theorem gTabType : (Tryd.prog.globals[0]?).map (·.type) = some 119 := by kernel_rfl
theorem cellsByte : Tryd.prog.cellsOf 5 = 1 := by kernel_rfl
theorem cellsTab : Tryd.prog.cellsOf 119 = 64 := by kernel_rfl

theorem door_met (os : Os) (args : Array Value) : laidMetH Tryd.prog tabs ((World.doorLaid Tryd.prog 400 os).forCall (fun _ _ => 0) ⟨#[], args, []⟩).memory :=
  laidMetH_of_parts3 (fuel := 8) (laidMet_of_run' 8 (by kernel_rfl) (by kernel_rfl)) (by kernel_rfl) (by kernel_rfl)

theorem tab_eq : tabs = [("math/bits.deBruijn64tab", Lib.tabData .u8 (Lib.deBruijn64tab.map Int.ofNat))] := rfl
theorem tab_getD : ∀ j : Fin 64, (Lib.deBruijn64tab.map Int.ofNat).getD j.val 0 = ((Lib.deBruijn64tab.getD j.val 0 : Nat) : Int) := by decide +kernel
theorem tab_of_laid {W : World} (h : laidMetH Tryd.prog tabs W) : TabAt W := by
  rw [MakeChecks.laidMetH_plain _ _ _ (by kernel_rfl), tab_eq] at h
  have hT := Lib.tabIs_of_head gTab gTabType Tryd.underlying119 Tryd.underlying5 cellsByte cellsTab h
  intro j hj
  have hj' : j < 64 := hj
  have hc := hT.cell gTab j (by simpa using hj)
  have e := tab_getD ⟨j, hj'⟩
  simp only at e
  rw [hc, e]

end Go.Proofs.YtkkodhjolgcokaaDoor
/-
  Contracts of package bits, continued: New, Count, Next and Gap, over this seat's translation.
-/
namespace Go.Proofs.YtkkodhjolgcokaaDoor
open Go.RowKit Go.Lib
set_option maxRecDepth 100000

set_option maxHeartbeats 400000 in
theorem within_in (b k n : Nat) (w : World) (hk : k < n) (hc : w.cell? ⟨b, 0, none⟩ = some (.int .i64 n)) :
    Calls Tryd.prog 77 #[.pointer (some ⟨b, 0, none⟩), .int .i64 k] w fun e w' => e = .returned (.tuple #[.int .i64 k, .bool true]) ∧ w = w' := by
  go_enter Tryd.func77, Tryd.ntmps77
  go_wp2_with fail
  refine (fits_in b k n _ hk hc).mono ?_
  rintro e w' ⟨rfl, rfl⟩
  go_wp2
  go_ret2
  exact ⟨rfl, rfl⟩
set_option maxHeartbeats 400000 in
theorem within_out (b k n : Nat) (w : World) (hk : n ≤ k) (hc : w.cell? ⟨b, 0, none⟩ = some (.int .i64 n)) :
    Calls Tryd.prog 77 #[.pointer (some ⟨b, 0, none⟩), .int .i64 k] w fun e w' => e = .returned (.tuple #[.int .i64 0, .bool false]) ∧ w = w' := by
  go_enter Tryd.func77, Tryd.ntmps77
  go_wp2_with fail
  refine (fits_out b n k _ (by omega) hc).mono ?_
  rintro e w' ⟨rfl, rfl⟩
  go_wp2
  go_ret2
  exact ⟨rfl, rfl⟩

set_option maxHeartbeats 1000000 in
theorem count_any (b g n : Nat) (S : Nat → Bool) (w : World) (h : SetAt w b g n S) :
    Calls Tryd.prog 56 #[.pointer (some ⟨b, 0, none⟩)] w fun e w' => e = .returned (.int .i64 (cnt S n : Nat)) ∧ w = w' := by
  have h1 := h.c1
  have hsz := h.size
  have HW := Lib.hid h.cw
  have HE := Lib.hid (cnt_beyond S n (64 * ((n + 63) / 64)) (by omega) h.bound)
  clear h
  obtain ⟨l, hl⟩ : ∃ l, l = (n + 63) / 64 := ⟨_, rfl⟩
  rw [← hl] at h1 HW HE
  have hl64 : l ≤ 64 := by omega
  clear hl
  go_enter Tryd.func56, Tryd.ntmps56
  go_wp2
  go_loop [3, 11] (fun c i => ∃ j : Nat, j ≤ l ∧ i = .int .i64 j ∧ c = .int .i64 (cnt S (64 * j) : Nat)) (fun _ i => l - (intOf i).toNat)
  case atStart => exact ⟨0, Nat.zero_le _, rfl, rfl⟩
  case round =>
    obtain ⟨j, hj, rfl, rfl⟩ := hrel
    by_cases hlt : j < l
    · have hc := HW.out j hlt
      have hwl := word_lt S j
      have hn := cnt_words S j
      have hb1 := cnt_le S (64 * j)
      have hb2 := cnt_le (fun i => (word S j).testBit i) 64
      have HO := Lib.hid (ones_any (word S j) w hwl)
      have HN := Lib.hid hn
      clear hn
      generalize word S j = wd at *
      generalize cnt (fun i => wd.testBit i) 64 = c1 at *
      generalize cnt S (64 * j) = c0 at *
      go_wp2_with fail
      refine HO.out.mono ?_
      rintro e w' ⟨rfl, rfl⟩
      go_wp2
      go_round
      case rel => exact ⟨j + 1, by omega, by go_num, by rw [HN.out]; go_num⟩
      case measure => simp [intOf]; omega
    · have he : j = l := by omega
      subst he
      clear HW
      go_wp2
      go_ret
      exact ⟨ret_int (by rw [HE.out]), rfl⟩

/-- What least answers: the least number of P from k on, below n, or none. -/
def LeastPost (P : Nat → Bool) (n k : Nat) (w : World) (e : Ending) (w' : World) : Prop :=
  w = w' ∧ ((∃ p, k ≤ p ∧ p < n ∧ P p = true ∧ (∀ q, k ≤ q → q < p → P q = false) ∧ e = .returned (.tuple #[.int .i64 p, .bool true])) ∨
    ((∀ q, k ≤ q → q < n → P q = false) ∧ e = .returned (.tuple #[.int .i64 0, .bool false])))

theorem mask_start (pw : Nat) (h0 : 0 < pw) (h : pw < 18446744073709551616) : bits .xor .u64 IntKind.u64.max ((pw : Int) - 1) = ((18446744073709551616 - pw : Nat) : Int) := by
  have e := bits_xor_u64_nat 18446744073709551615 (pw - 1) (by omega) (by omega)
  rw [show ((18446744073709551615 : Nat) : Int) = IntKind.u64.max from rfl, show ((pw - 1 : Nat) : Int) = (pw : Int) - 1 by omega] at e
  rw [e]
  congr 1
  have hx : 18446744073709551615 ^^^ (pw - 1) = 18446744073709551615 - (pw - 1) := by
    apply Nat.eq_of_testBit_eq; intro i
    have h1 : (18446744073709551615).testBit i = decide (i < 64) := Nat.testBit_two_pow_sub_one 64 i
    rw [Nat.testBit_xor, h1, not_bit _ _ (by omega)]
    by_cases hi : i < 64
    · simp [hi]
    · have : (pw - 1).testBit i = false := Nat.testBit_lt_two_pow (Nat.lt_of_lt_of_le (show pw - 1 < 2 ^ 64 by omega) (Nat.pow_le_pow_right (by decide) (by omega)))
      simp [hi, this]
  rw [hx]; omega

set_option maxHeartbeats 2000000 in
theorem least_in (b g n k flip : Nat) (kk : Int) (S P : Nat → Bool) (w : World) (hkk : (0 ≤ kk ∧ kk = k) ∨ (kk < 0 ∧ k = 0)) (h : SetAt w b g n S) (hT : TabAt w) (hk : k < n) (hfl : flip < 18446744073709551616) (hP : ∀ j, word S j ^^^ flip = word P j) :
    Calls Tryd.prog 61 #[.pointer (some ⟨b, 0, none⟩), .int .i64 kk, .int .u64 flip] w (LeastPost P n k w) := by
  have h0 := h.c0
  have h1 := h.c1
  have hsz := h.size
  have HW := Lib.hid h.cw
  have HT := Lib.hid hT
  have HP := Lib.hid hP
  clear h hT hP
  obtain ⟨l, hl⟩ : ∃ l, l = (n + 63) / 64 := ⟨_, rfl⟩
  rw [← hl] at h1 HW
  have hl64 : l ≤ 64 := by omega
  have hkl : k / 64 < l := by omega
  have hnl : n ≤ 64 * l := by omega
  clear hl
  have hk0 : ¬ (k : Int) < 0 := by omega
  have HB : Hid (∀ W : World, Calls Tryd.prog 63 #[.int .i64 k] W fun e w' => e = .returned (.int .u64 ((2 ^ (k % 64) : Nat) : Int)) ∧ W = w') := Lib.hid fun W => (bit_any k W (by omega)).mono fun _ _ ⟨a, c⟩ => ⟨a, c.symm⟩
  have hpl := pow_lt (k % 64) (Nat.mod_lt _ (by decide))
  have hp0 : 0 < 2 ^ (k % 64) := Nat.two_pow_pos _
  have HM := Lib.hid (show from64 (k % 64) = 18446744073709551616 - 2 ^ (k % 64) from rfl)
  generalize 2 ^ (k % 64) = pw at *
  have key : ∀ kk : Int, ((0 ≤ kk ∧ kk = k) ∨ (kk < 0 ∧ k = 0)) → Calls Tryd.prog 61 #[.pointer (some ⟨b, 0, none⟩), .int .i64 kk, .int .u64 flip] w (LeastPost P n k w) := by
   intro kk hkk
   rcases hkk with ⟨hkk, rfl⟩ | ⟨hkk, hkz⟩
   focus
     go_enter Tryd.func61, Tryd.ntmps61
     go_wp2_with fail
   rotate_left
   focus
     have hkz' := Lib.hid (show (0 : Int) = (k : Int) by omega)
     clear hkz
     go_enter Tryd.func61, Tryd.ntmps61
     go_wp2_with fail
     rw [hkz'.out]
   all_goals
    refine (fits_in b k n _ hk h0).mono ?_
    rintro e w' ⟨rfl, rfl⟩
    go_wp2_with fail
    refine (HB.out _).mono ?_
    rintro e w' ⟨rfl, rfl⟩
    go_wp2
    go_loop [8, 9] (fun mt it => ∃ j mk : Nat, j ≤ l ∧ mk < 64 ∧ k ≤ 64 * j + mk ∧ it = .int .i64 j ∧ mt = .int .u64 (from64 mk : Nat) ∧ Hid (∀ q, k ≤ q → q < 64 * j + mk → P q = false)) (fun _ it => l - (intOf it).toNat)
    case atStart => exact ⟨k / 64, k % 64, by omega, Nat.mod_lt _ (by decide), by omega, by go_num, by rw [HM.out, ← mask_start pw hp0 hpl], Lib.hid fun q h1 h2 => by omega⟩
    case round =>
      obtain ⟨j, mk, hj, hmk, hkj, rfl, rfl, hno⟩ := hrel
      by_cases hlt : j < l
      · have hc := HW.out j hlt
        have hwl := word_lt S j
        have hx1 : bits .xor .u64 (word S j : Int) (flip : Int) = (word P j : Int) := by rw [bits_xor_u64_nat _ _ hwl hfl, HP.out]
        have hx2 : bits .and .u64 (word P j : Int) (from64 mk : Int) = ((word P j &&& from64 mk : Nat) : Int) := bits_and_u64_nat _ _ (word_lt P j) (from_lt mk)
        have hxl : word P j &&& from64 mk < 18446744073709551616 := Nat.lt_of_le_of_lt Nat.and_le_left (word_lt P j)
        have HZ := Lib.hid (masked_zero P j mk hmk)
        have HBT := Lib.hid (fun i => masked_bit P j mk i hmk)
        generalize word P j &&& from64 mk = x at *
        generalize from64 mk = fm at *
        generalize word P j = wp at *
        generalize word S j = wd at *
        by_cases hx0 : x = 0
        · have hz := HZ.out hx0
          subst hx0
          clear HBT HZ
          have hz2 : Hid (∀ q, k ≤ q → q < 64 * (j + 1) + 0 → P q = false) := Lib.hid fun q h1 h2 => by
            by_cases h3 : q < 64 * j + mk
            · exact hno.out q h1 h3
            · have := hz (q - 64 * j) (by omega) (by omega)
              rwa [show 64 * j + (q - 64 * j) = q by omega] at this
          clear hz
          go_wp2
          go_round
          case rel => exact ⟨j + 1, 0, by omega, by omega, by omega, by go_num, by rw [from_zero]; rfl, hz2⟩
          case measure => simp [intOf]; omega
        · obtain ⟨b1, b2, b3⟩ := lowest x hx0 hxl
          have HTZ := Lib.hid (tz_any x w hx0 hxl HT.out)
          have hne : ((x : Int) != 0) = true := by simp; omega
          have hc1 := HBT.out (ctz 64 x)
          rw [b1] at hc1
          have hmc : mk ≤ ctz 64 x := by
            have := hc1.symm
            simp only [Bool.and_eq_true, decide_eq_true_eq] at this
            exact this.1.1
          have hPc : P (64 * j + ctz 64 x) = true := by
            have := hc1.symm
            simp only [Bool.and_eq_true, decide_eq_true_eq] at this
            exact this.2
          have hlow : ∀ q, k ≤ q → q < 64 * j + ctz 64 x → P q = false := fun q h1 h2 => by
            by_cases h3 : q < 64 * j + mk
            · exact hno.out q h1 h3
            · have h4 := HBT.out (q - 64 * j)
              rw [b2 _ (by omega)] at h4
              rw [show 64 * j + (q - 64 * j) = q by omega] at h4
              simpa [show mk ≤ q - 64 * j by omega, show q - 64 * j < 64 by omega] using h4.symm
          have H1 := Lib.hid hPc
          have H2 := Lib.hid hlow
          clear hPc hlow hc1 b1 b2 HZ HBT hx0 hno
          generalize ctz 64 x = c at *
          by_cases hin : 64 * j + c < n
          · go_wp2_with fail
            refine HTZ.out.mono ?_
            rintro e w' ⟨rfl, rfl⟩
            go_wp2_with fail
            rw [show (j : Int) * 64 + (c : Int) = ((64 * j + c : Nat) : Int) by omega]
            refine (within_in b (64 * j + c) n _ hin h0).mono ?_
            rintro e w' ⟨rfl, rfl⟩
            go_wp2
            go_ret2
            exact ⟨rfl, Or.inl ⟨64 * j + c, by omega, hin, H1.out, H2.out, rfl⟩⟩
          · go_wp2_with fail
            refine HTZ.out.mono ?_
            rintro e w' ⟨rfl, rfl⟩
            go_wp2_with fail
            rw [show (j : Int) * 64 + (c : Int) = ((64 * j + c : Nat) : Int) by omega]
            refine (within_out b (64 * j + c) n _ (by omega) h0).mono ?_
            rintro e w' ⟨rfl, rfl⟩
            go_wp2
            go_ret2
            exact ⟨rfl, Or.inr ⟨fun q h1 h2 => H2.out q h1 (by omega), rfl⟩⟩
      · go_wp2
        go_ret2
        exact ⟨rfl, Or.inr ⟨fun q h1 h2 => hno.out q h1 (by omega), rfl⟩⟩
  exact key kk hkk

theorem least_out (b g n flip : Nat) (kk : Int) (S P : Nat → Bool) (w : World) (h : SetAt w b g n S) (hk : n ≤ kk.toNat) :
    Calls Tryd.prog 61 #[.pointer (some ⟨b, 0, none⟩), .int .i64 kk, .int .u64 flip] w (LeastPost P n kk.toNat w) := by
  have h0 := h.c0
  clear h
  by_cases h2 : kk < 0
  · have hn : n = 0 := by omega
    go_enter Tryd.func61, Tryd.ntmps61
    go_wp2_with fail
    refine (fits_out b n 0 _ (by omega) h0).mono ?_
    rintro e w' ⟨rfl, rfl⟩
    go_wp2
    go_ret2
    exact ⟨rfl, Or.inr ⟨fun q h1 h2 => by omega, rfl⟩⟩
  · have h3 : 0 ≤ kk := by omega
    go_enter Tryd.func61, Tryd.ntmps61
    go_wp2_with fail
    refine (fits_out b n kk _ (by omega) h0).mono ?_
    rintro e w' ⟨rfl, rfl⟩
    go_wp2
    go_ret2
    exact ⟨rfl, Or.inr ⟨fun q h1 h2 => by omega, rfl⟩⟩

theorem least_any (b g n flip : Nat) (kk : Int) (S P : Nat → Bool) (w : World) (h : SetAt w b g n S) (hT : TabAt w) (hfl : flip < 18446744073709551616) (hP : ∀ j, word S j ^^^ flip = word P j) :
    Calls Tryd.prog 61 #[.pointer (some ⟨b, 0, none⟩), .int .i64 kk, .int .u64 flip] w (LeastPost P n kk.toNat w) := by
  by_cases hk : kk.toNat < n
  · exact least_in b g n kk.toNat flip kk S P w (by omega) h hT hk hfl hP
  · exact least_out b g n flip kk S P w h (by omega)

theorem post2 {P : Nat → Bool} {n k : Nat} {w : World} {e : Ending} {w' : World} (h : LeastPost P n k w e w') :
    ∃ (v : Nat) (ok : Bool), e = .returned (.tuple #[.int .i64 v, .bool ok]) ∧ w = w' ∧ LeastPost P n k w (.returned (.tuple #[.int .i64 v, .bool ok])) w := by
  obtain ⟨hw, ⟨p, h1, h2, h3, h4, rfl⟩ | ⟨h1, rfl⟩⟩ := h
  · exact ⟨p, true, rfl, hw, rfl, Or.inl ⟨p, h1, h2, h3, h4, rfl⟩⟩
  · exact ⟨0, false, rfl, hw, rfl, Or.inr ⟨h1, rfl⟩⟩


set_option maxHeartbeats 400000 in
theorem gap_any (b g n : Nat) (kk : Int) (S : Nat → Bool) (w : World) (h : SetAt w b g n S) (hT : TabAt w) :
    Calls Tryd.prog 37 #[.pointer (some ⟨b, 0, none⟩), .int .i64 kk] w (LeastPost (fun i => !S i) n kk.toNat w) := by
  have c : Calls Tryd.prog 61 #[.pointer (some ⟨b, 0, none⟩), .int .i64 kk, .int .u64 18446744073709551615] w (LeastPost (fun i => !S i) n kk.toNat w) := least_any b g n 18446744073709551615 kk S (fun i => !S i) w h hT (by omega) (fun j => word_xor_all S j)
  have C := Lib.hid c
  clear c h hT
  go_enter Tryd.func37, Tryd.ntmps37
  go_wp2_with fail
  refine C.out.mono ?_
  intro e w' hp
  obtain ⟨v, ok, rfl, rfl, hp2⟩ := post2 hp
  have HP := Lib.hid hp2
  clear hp hp2
  go_wp2
  go_ret2
  exact HP.out

/-- The size that New makes of a number. -/
def clampN (size : Int) : Nat := (max 0 (min size 4096)).toNat

theorem made_at (z : Value) (n j : Nat) (h : j < n) : (madeCells #[z] n)[j]? = some z := by
  simp [madeCells, h, Nat.mod_one]
theorem make_words (n : Nat) (hn : n ≤ 4096) (w : World) :
    (Instr.makeSlice 23 (.int .i64 (((n : Int) + 64 - 1) / 64)) (.int .i64 (((n : Int) + 64 - 1) / 64))).run Tryd.prog w =
      .ok (.slice (some ⟨w.heap.size, 0, none⟩) ((n + 63) / 64) ((n + 63) / 64)) (w.alloc (.cells (madeCells #[.int .u64 0] ((n + 63) / 64)) 22)) := by
  obtain ⟨i, hi, hz⟩ : ∃ i : TypeInfo, Tryd.prog.info? 22 = some i ∧ i.zero = some (.int .u64 0) ∧ i.bytes = 8 ∧ i.size = 1 := ⟨_, rfl, rfl, rfl, rfl⟩
  have h := run_make (P := Tryd.prog) w 23 22 i _ Tryd.underlying23 hi hz.1 .i64 .i64 (((n : Int) + 64 - 1) / 64) (((n : Int) + 64 - 1) / 64) (by omega) (by omega) (by rw [hz.2.1]; omega) (by omega)
  rw [hz.2.2, Nat.mul_one, show ((((n : Int) + 64 - 1) / 64)).toNat = (n + 63) / 64 by omega] at h
  exact h

set_option maxHeartbeats 400000 in
theorem new_any (size : Int) (w : World) :
    Calls Tryd.prog 34 #[.int .i64 size] w fun e w' => e = .returned (.pointer (some ⟨w.heap.size + 1, 0, none⟩)) ∧ w.grownBy w' none ∧ SetAt w' (w.heap.size + 1) w.heap.size (clampN size) (fun _ => false) := by
  have c := clamp_any size 0 4096 w
  have hn : max 0 (min size 4096) = ((clampN size : Nat) : Int) := by unfold clampN; omega
  have hs : clampN size ≤ 4096 := by unfold clampN; omega
  rw [hn] at c
  generalize clampN size = n at *
  have C := Lib.hid c
  clear c hn
  have hmk := fun W => make_words n hs W
  go_enter Tryd.func34, Tryd.ntmps34
  go_wp2_with fail
  refine (C.out).mono ?_
  rintro e w' ⟨rfl, rfl⟩
  go_wp2
  go_ret
  refine ⟨rfl, (World.grownBy_alloc w _ none).trans (World.grownBy_alloc _ _ none), ?_⟩
  refine ⟨hs, fun _ _ => rfl, by simp, by simp, fun j hj => ?_, fun j hj => ?_, by omega, by simp, by simp; omega⟩
  · rw [word_none, World.cell?_alloc_lt _ _ _ (by simp), World.cell?_alloc_new]
    exact made_at _ _ _ hj
  · simp

end Go.Proofs.YtkkodhjolgcokaaDoor
/-
  Contracts of package bits as its callers use them, and of the statements' first test 'alive', over this seat's translation.
-/
namespace Go.Proofs.YtkkodhjolgcokaaDoor
open Go.RowKit Go.Lib

theorem TabAt.kept {w w' : World} (h : TabAt w) (hg : w.grownBy w' none) : TabAt w' := fun j hj =>
  (hg.cell_far ⟨0, j, none⟩ (by
    have hc := h j hj
    unfold World.cell? at hc
    simp only at hc
    refine Decidable.byContradiction fun hn => ?_
    rw [Array.getElem?_eq_none (by simpa using hn)] at hc
    cases hc) (by simp)).trans (h j hj)

/-- What is turned in a block that is new leaves all that was as it was. -/
theorem grow_on {W w w' : World} {g : Nat} (h : W.grownBy w none) (k : w.grownBy w' (some g)) (hg : W.heap.size ≤ g) : W.grownBy w' none :=
  h.andThen k (fun j e => by cases e; exact Or.inl hg)
theorem grow_to {W w w' : World} (h : W.grownBy w none) (k : w.grownBy w' none) : W.grownBy w' none := h.trans k

theorem new_made (size : Int) (n : Nat) (hn : clampN size = n) (w : World) :
    Calls Tryd.prog 34 #[.int .i64 size] w fun e w' => ∃ b g, e = .returned (.pointer (some ⟨b, 0, none⟩)) ∧ w.heap.size ≤ b ∧ w.heap.size ≤ g ∧ w.grownBy w' none ∧ SetAt w' b g n (fun _ => false) :=
  (new_any size w).mono fun e w' ⟨h1, h2, h3⟩ => ⟨_, _, h1, by omega, by omega, h2, hn ▸ h3⟩

theorem least_some {f : FuncId} {args : Array Value} {P : Nat → Bool} {n k : Nat} {w : World} (c : Calls Tryd.prog f args w (LeastPost P n k w)) (p : Nat) (h1 : k ≤ p) (h2 : p < n) (h3 : P p = true) (h4 : ∀ q, k ≤ q → q < p → P q = false) :
    Calls Tryd.prog f args w fun e w' => e = .returned (.tuple #[.int .i64 p, .bool true]) ∧ w = w' :=
  c.mono fun e w' hp => by
    obtain ⟨hw, ⟨p', a1, a2, a3, a4, he⟩ | ⟨a1, he⟩⟩ := hp
    · refine ⟨?_, hw⟩
      rcases Nat.lt_trichotomy p' p with h | h | h
      · rw [h4 p' a1 h] at a3; cases a3
      · rw [he, h]
      · rw [a4 p h1 h] at h3; cases h3
    · rw [a1 p h1 h2] at h3; cases h3
theorem least_none {f : FuncId} {args : Array Value} {P : Nat → Bool} {n k : Nat} {w : World} (c : Calls Tryd.prog f args w (LeastPost P n k w)) (h : ∀ q, k ≤ q → q < n → P q = false) :
    Calls Tryd.prog f args w fun e w' => e = .returned (.tuple #[.int .i64 0, .bool false]) ∧ w = w' :=
  c.mono fun e w' hp => by
    obtain ⟨hw, ⟨p', a1, a2, a3, a4, he⟩ | ⟨a1, he⟩⟩ := hp
    · rw [h p' a1 a2] at a3; cases a3
    · exact ⟨he, hw⟩


end Go.Proofs.YtkkodhjolgcokaaDoor
/-
  What a call in a region may have turned: the words of its set, and its own places; all else is as it was. (No condition.)
-/
namespace Go.Proofs.YtkkodhjolgcokaaDoor
open Go.RowKit Go.Lib

theorem Only.cell' {lo hi : Nat} {a b : World} (h : Only lo hi a b) (k j : Nat) (hp : k < a.heap.size) (hr : k < lo ∨ hi ≤ k) : b.cell? ⟨k, j, none⟩ = a.cell? ⟨k, j, none⟩ := h.cell ⟨k, j, none⟩ hp hr
theorem Only.frozen' {lo hi : Nat} {a b : World} (h : Only lo hi a b) (k j : Nat) (hp : k < a.heap.size) (hr : k < lo ∨ hi ≤ k) : b.frozen? ⟨k, j, none⟩ = a.frozen? ⟨k, j, none⟩ := h.frozen ⟨k, j, none⟩ hp hr

/-- From w to w' nothing has turned but block g and the cells of block pb from po on, below po + n. -/
structure Touch (g pb po n : Nat) (w w' : World) : Prop where
  os : w'.os = w.os
  tape : w'.tape = w.tape
  output : w'.output = w.output
  size : w.heap.size ≤ w'.heap.size
  block : ∀ k, k < w.heap.size → k ≠ g → k ≠ pb → w'.heap[k]? = w.heap[k]?
  cell : ∀ j, (j < po ∨ po + n ≤ j) → w'.cell? ⟨pb, j, none⟩ = w.cell? ⟨pb, j, none⟩
  frz : ∀ j, w'.frozen? ⟨pb, j, none⟩ = w.frozen? ⟨pb, j, none⟩
theorem Touch.of_grown {g pb po n : Nat} {w w' : World} (h : w.grownBy w' (some g)) (hp : pb < w.heap.size) (hne : pb ≠ g) : Touch g pb po n w w' :=
  ⟨h.os, h.tape, h.output, h.size, fun k hk h1 _ => h.block k hk (by intro e; cases e; exact h1 rfl), fun j _ => h.cell_far ⟨pb, j, none⟩ hp (by intro e; cases e; exact hne rfl), fun j => h.frozen_far ⟨pb, j, none⟩ hp (by intro e; cases e; exact hne rfl)⟩
theorem Touch.of_none {g pb po n : Nat} {w w' : World} (h : w.grownBy w' none) (hp : pb < w.heap.size) : Touch g pb po n w w' :=
  ⟨h.os, h.tape, h.output, h.size, fun k hk _ _ => h.block k hk (by simp), fun j _ => h.cell_far ⟨pb, j, none⟩ hp (by simp), fun j => h.frozen_far ⟨pb, j, none⟩ hp (by simp)⟩
theorem Touch.trans {g pb po n : Nat} {a b c : World} (h : Touch g pb po n a b) (k : Touch g pb po n b c) : Touch g pb po n a c :=
  ⟨k.os.trans h.os, k.tape.trans h.tape, k.output.trans h.output, Nat.le_trans h.size k.size, fun i hi h1 h2 => (k.block i (Nat.lt_of_lt_of_le hi h.size) h1 h2).trans (h.block i hi h1 h2), fun j hj => (k.cell j hj).trans (h.cell j hj), fun j => (k.frz j).trans (h.frz j)⟩
theorem size_set (w : World) (a : Addr) (v : Value) : (w.setCell a v).heap.size = w.heap.size := by simp [World.setCell]
theorem Touch.set {g pb po n : Nat} (w : World) (j : Nat) (v : Value) (h1 : po ≤ j) (h2 : j < po + n) : Touch g pb po n w (w.setCell ⟨pb, j, none⟩ v) :=
  ⟨rfl, rfl, rfl, by rw [size_set]; exact Nat.le_refl _, fun k _ _ hk => Below.heap_setCell w ⟨pb, j, none⟩ v k hk, fun i hi => World.cell?_setCell_other _ _ _ _ (by intro e; cases e; omega), fun i => World.frozen?_setCell ..⟩
theorem Touch.only {g pb po n lo hi : Nat} {w w' : World} (h : Touch g pb po n w w') (h1 : lo ≤ g ∧ g < hi) (h2 : lo ≤ pb ∧ pb < hi) : Only lo hi w w' :=
  ⟨h.os, h.tape, h.output, h.size, fun k hk hr => h.block k hk (by omega) (by omega)⟩
theorem Touch.far {g pb po n : Nat} {w w' : World} (h : Touch g pb po n w w') (k j : Nat) (hk : k < w.heap.size) (h1 : k ≠ g) (h2 : k ≠ pb) : w'.cell? ⟨k, j, none⟩ = w.cell? ⟨k, j, none⟩ :=
  World.cell?_of_block (a := ⟨k, j, none⟩) (h.block k hk h1 h2)
theorem Touch.farF {g pb po n : Nat} {w w' : World} (h : Touch g pb po n w w') (k j : Nat) (hk : k < w.heap.size) (h1 : k ≠ g) (h2 : k ≠ pb) : w'.frozen? ⟨k, j, none⟩ = w.frozen? ⟨k, j, none⟩ :=
  World.frozen?_of_block (a := ⟨k, j, none⟩) (h.block k hk h1 h2)
theorem SetAt.touch {w w' : World} {b g0 n0 g pb po n : Nat} {S : Nat → Bool} (h : SetAt w b g0 n0 S) (k : Touch g pb po n w w') (h1 : b ≠ g ∧ b ≠ pb) (h2 : g0 ≠ g ∧ g0 ≠ pb) : SetAt w' b g0 n0 S :=
  ⟨h.size, h.bound, (k.far b 0 h.hb h1.1 h1.2).trans h.c0, (k.far b 1 h.hb h1.1 h1.2).trans h.c1, fun j hj => (k.far g0 j h.hg h2.1 h2.2).trans (h.cw j hj),
    fun j hj => (k.farF g0 j h.hg h2.1 h2.2).trans (h.cf j hj), h.bg, Nat.lt_of_lt_of_le h.hb k.size, Nat.lt_of_lt_of_le h.hg k.size⟩
theorem SetAt.only {w w' : World} {b g n lo hi : Nat} {S : Nat → Bool} (h : SetAt w b g n S) (k : Only lo hi w w') (h1 : b < lo ∨ hi ≤ b) (h2 : g < lo ∨ hi ≤ g) : SetAt w' b g n S :=
  ⟨h.size, h.bound, (k.cell' b 0 h.hb h1).trans h.c0, (k.cell' b 1 h.hb h1).trans h.c1, fun j hj => (k.cell' g j h.hg h2).trans (h.cw j hj),
    fun j hj => (k.frozen' g j h.hg h2).trans (h.cf j hj), h.bg, Nat.lt_of_lt_of_le h.hb k.size, Nat.lt_of_lt_of_le h.hg k.size⟩

/-- A value at one place otherwise. -/
def upV {α : Type} (f : Nat → α) (k : Nat) (v : α) : Nat → α := fun i => if i = k then v else f i
theorem upV_same {α : Type} (f : Nat → α) (k : Nat) (v : α) : upV f k v k = v := by simp [upV]
theorem upV_other {α : Type} (f : Nat → α) (k : Nat) (v : α) (i : Nat) (h : i ≠ k) : upV f k v i = f i := by simp [upV, h]

/-! The set's calls as the regions have them. -/
theorem has_g (b g n : Nat) (k : Int) (S : Nat → Bool) (w : World) (h : SetAt w b g n S) (v : Bool) (hv : (0 ≤ k ∧ k < n ∧ S k.toNat = v) ∨ ((k < 0 ∨ (n : Int) ≤ k) ∧ v = false)) :
    Calls Tryd.prog 39 #[.pointer (some ⟨b, 0, none⟩), .int .i64 k] w fun e w' => e = .returned (.bool v) ∧ w.grownBy w' none := by
  rcases hv with ⟨h0, h1, h2⟩ | ⟨h1, rfl⟩
  · obtain ⟨k, rfl⟩ := Int.eq_ofNat_of_zero_le h0
    refine (has_in b g n k S w h (by omega)).mono fun e w' ⟨he, m, hm⟩ => ?_
    subst hm
    exact ⟨by rw [he]; simpa using h2, grow_draw w _ m⟩
  · refine (has_out b g n k S w h h1).mono fun e w' ⟨he, m, hm⟩ => ?_
    subst hm
    exact ⟨he, grow_draw w _ m⟩
theorem drop_none (b g n : Nat) (k : Int) (S : Nat → Bool) (w : World) (h : SetAt w b g n S) (hv : k < 0 ∨ (n : Int) ≤ k ∨ S k.toNat = false) :
    Calls Tryd.prog 57 #[.pointer (some ⟨b, 0, none⟩), .int .i64 k] w fun e w' => e = .returned (.bool false) ∧ w.grownBy w' none := by
  by_cases h2 : k < 0 ∨ (n : Int) ≤ k
  · refine (drop_out b g n k S w h h2).mono fun e w' ⟨he, m, hm⟩ => ?_
    subst hm
    exact ⟨he, grow_draw w _ m⟩
  · obtain ⟨k, rfl⟩ := Int.eq_ofNat_of_zero_le (show 0 ≤ k by omega)
    have h3 : S k = false := by
      rcases hv with h | h | h
      · omega
      · omega
      · simpa using h
    refine (drop_not b g n k S w h (by omega) h3).mono fun e w' ⟨he, m, hm⟩ => ?_
    subst hm
    exact ⟨he, grow_draw w _ m⟩

end Go.Proofs.YtkkodhjolgcokaaDoor
/-
  Rows of ints that a call owns or reads, over this seat's translation: made, read, compared (nightjarref03.Same).
-/
namespace Go.Proofs.YtkkodhjolgcokaaDoor
open Go.RowKit Go.Lib
set_option maxRecDepth 100000

/-- Numbers as the cells of a row of ints. -/
def ints (F : List Nat) : List Value := F.map fun (x : Nat) => Value.int .i64 (x : Int)
theorem ints_len (F : List Nat) : (ints F).length = F.length := by simp [ints]
theorem ints_snoc (F : List Nat) (k : Nat) : ints F ++ [Value.int .i64 (k : Int)] = ints (F ++ [k]) := by simp [ints]
theorem ints_add (F G : List Nat) : ints F ++ ints G = ints (F ++ G) := by simp [ints]
theorem ints_one (F : List Nat) : ∀ u ∈ ints F, u.oneCell' = true := by
  intro u hu
  simp only [ints, List.mem_map] at hu
  obtain ⟨i, _, rfl⟩ := hu
  rfl

/-- A row of ints of the call's own, from block B on. -/
def RowOf (w : World) (B r cp : Nat) (F : List Nat) : Prop := w.ownsRow B 3 1 (.slice (some ⟨r, 0, none⟩) F.length cp) F.length (ints F)
theorem RowOf.lt {w : World} {B r cp : Nat} {F : List Nat} (h : RowOf w B r cp F) : B ≤ r ∧ r < w.heap.size := World.ownsRow.lt h r rfl
theorem RowOf.cell {w : World} {B r cp : Nat} {F : List Nat} (h : RowOf w B r cp F) (j : Nat) (hj : j < F.length) : w.cell? ⟨r, j, none⟩ = some (.int .i64 (F[j] : Nat)) := by
  rw [World.ownsRow.cellAt h j (by omega)]; simp [ints, hj]
theorem RowOf.kept {w w' : World} {B r cp : Nat} {F : List Nat} {row : Option Nat} (h : RowOf w B r cp F) (hg : w.grownBy w' row) (hr : some r ≠ row) : RowOf w' B r cp F := World.ownsRow.kept h hg (Or.inr hr)
theorem RowOf.only {w w' : World} {B r cp lo hi : Nat} {F : List Nat} (h : RowOf w B r cp F) (k : Only lo hi w w') (hr : r < lo ∨ hi ≤ r) : RowOf w' B r cp F := own_only h k hr
theorem RowOf.mono {w : World} {B B' r cp : Nat} {F : List Nat} (h : RowOf w B r cp F) (hB : B' ≤ B) : RowOf w B' r cp F := World.ownsRow.mono h hB
theorem row_of_owns {w : World} {B : Nat} {v : Value} {F : List Nat} {k : Nat} {xs : List Value} (h : w.ownsRow B 3 1 v k xs) (hk : k = F.length) (hx : xs = ints F) (hv : v ≠ .slice none 0 0) : ∃ r cp, v = .slice (some ⟨r, 0, none⟩) F.length cp ∧ RowOf w B r cp F := by
  subst hk
  subst hx
  rcases h.2 with ⟨h0, _⟩ | ⟨r, cp, cur, hv', _⟩
  · exact absurd h0 hv
  · subst hv'
    exact ⟨r, cp, rfl, h⟩

/-- A slice whose numbers can be read. -/
def Reads (w : World) (v : Value) (F : List Nat) : Prop := ∃ a cap, v = .slice a F.length cap ∧ ∀ j (h : j < F.length), ∃ b o, a = some ⟨b, o, none⟩ ∧ b < w.heap.size ∧ w.cell? ⟨b, o + j, none⟩ = some (.int .i64 (F[j] : Nat))
theorem RowOf.reads {w : World} {B r cp : Nat} {F : List Nat} (h : RowOf w B r cp F) : Reads w (.slice (some ⟨r, 0, none⟩) F.length cp) F :=
  ⟨_, _, rfl, fun j hj => ⟨r, 0, rfl, h.lt.2, by simpa using h.cell j hj⟩⟩
theorem Reads.kept {w w' : World} {v : Value} {F : List Nat} (h : Reads w v F) (hg : w.grownBy w' none) : Reads w' v F := by
  obtain ⟨a, cap, rfl, hc⟩ := h
  refine ⟨a, cap, rfl, fun j hj => ?_⟩
  obtain ⟨b, o, e, hb, h⟩ := hc j hj
  exact ⟨b, o, e, Nat.lt_of_lt_of_le hb hg.size, (hg.cell_far ⟨b, o + j, none⟩ hb (by simp)).trans h⟩
theorem reads_nil (w : World) : Reads w (.slice none 0 0) [] := ⟨none, 0, rfl, fun j h => absurd h (by simp)⟩

theorem int_info : ∃ i : TypeInfo, Tryd.prog.info? 3 = some i ∧ i.zero = some (.int .i64 0) ∧ i.size = 1 ∧ i.bytes = 8 := ⟨_, rfl, rfl, rfl, rfl⟩
theorem make_ints (a c : Nat) (hac : a ≤ c) (hc : c ≤ 1000000) (w : World) :
    (Instr.makeSlice 30 (.int .i64 (a : Int)) (.int .i64 (c : Int))).run Tryd.prog w =
      .ok (.slice (some ⟨w.heap.size, 0, none⟩) a c) (w.alloc (.cells (madeCells #[.int .i64 0] c) 3)) := by
  obtain ⟨i, hi, hz⟩ : ∃ i : TypeInfo, Tryd.prog.info? 3 = some i ∧ i.zero = some (.int .i64 0) ∧ i.bytes = 8 ∧ i.size = 1 := ⟨_, rfl, rfl, rfl, rfl⟩
  have h := run_make (P := Tryd.prog) w 30 3 i _ Tryd.underlying30 hi hz.1 .i64 .i64 (a : Int) (c : Int) (by omega) (by omega) (by rw [hz.2.1]; omega) (by omega)
  rw [hz.2.2, Nat.mul_one, Int.toNat_natCast, Int.toNat_natCast] at h
  exact h
theorem made_atC (z : Value) (n j : Nat) (h : j < n) : (madeCells #[z] n)[j]? = some z := by
  simp [madeCells, h, Nat.mod_one]
theorem make_room (w : World) (B c : Nat) (hB : B ≤ w.heap.size) (hc : c ≤ 1000000) : RowOf (w.alloc (.cells (madeCells #[.int .i64 0] c) 3)) B w.heap.size c [] :=
  World.ownsRow_made w _ c hB (by unfold maxLen; omega) (by simp [madeCells])
theorem lit_room (w : World) (B : Nat) (hB : B ≤ w.heap.size) : RowOf (w.alloc (.cells #[] 3)) B w.heap.size 0 [] :=
  World.ownsRow_made w #[] 0 hB (by decide) rfl

set_option maxHeartbeats 1000000 in
theorem same_yes {w : World} {va vb : Value} {F : List Nat} (ha : Reads w va F) (hb : Reads w vb F) (hF : F.length ≤ 1000000) :
    Calls Tryd.prog 21 #[va, vb] w fun e w' => e = .returned (.bool true) ∧ w.grownBy w' none := by
  obtain ⟨a, cap, rfl, HA⟩ := ha
  obtain ⟨b, cap2, rfl, HB⟩ := hb
  have HA' := Lib.hid HA
  have HB' := Lib.hid HB
  clear HA HB
  have hx0 : w.grownBy w none := ⟨rfl, rfl, rfl, Nat.le_refl _, fun _ _ _ => rfl⟩
  go_enter Tryd.func21, Tryd.ntmps21
  go_wp2
  go_loopw [5] (fun it wr => ∃ j : Nat, j ≤ F.length ∧ it = .int .i64 j ∧ w.grownBy wr none) (fun it _ => F.length - (intOf it).toNat)
  case atStart => exact ⟨0, Nat.zero_le _, rfl, hx0⟩
  case round =>
    obtain ⟨j, hj, rfl, hG⟩ := hrel
    clear hx0
    by_cases hlt : j < F.length
    · obtain ⟨b1, o1, e1, hb1, c1⟩ := HA'.out j hlt
      obtain ⟨b2, o2, e2, hb2, c2⟩ := HB'.out j hlt
      subst e1
      subst e2
      have d1 := (hG.cell_far ⟨b1, o1 + j, none⟩ hb1 (by simp)).trans c1
      have d2 := (hG.cell_far ⟨b2, o2 + j, none⟩ hb2 (by simp)).trans c2
      clear c1 c2
      generalize F[j] = x at d1 d2

      have q1 : (j : Int) < (F.length : Int) := by omega
      go_wp2_with fail
      go_quiet (fail)
      go_wp2
      go_roundw
      case rel => exact ⟨j + 1, by omega, by go_num, hG.trans (⟨rfl, rfl, rfl, Nat.le_refl _, fun _ _ _ => rfl⟩)⟩
      case measure => simp [intOf]; omega
    · go_wp2
      go_ret
      exact ⟨rfl, hG⟩

end Go.Proofs.YtkkodhjolgcokaaDoor
/-
  Contracts of package slab, over this seat's translation: roomsOf and sum.
-/
namespace Go.Proofs.YtkkodhjolgcokaaDoor
open Go.RowKit Go.Lib
set_option maxRecDepth 100000

/-- A slice of ints that is handed in. -/
structure CapsAt (w : World) (sa : Option Addr) (len cap : Nat) (zs : Nat → Int) : Prop where
  le : len ≤ cap
  max : cap ≤ maxLen
  at_ : 0 < len → ∃ b o, sa = some ⟨b, o, none⟩ ∧ b < w.heap.size ∧ ∀ j, j < len → w.cell? ⟨b, o + j, none⟩ = some (.int .i64 (zs j))
theorem CapsAt.kept {w w' : World} {sa : Option Addr} {len cap : Nat} {zs : Nat → Int} (h : CapsAt w sa len cap zs) (k : w.grownBy w' none) : CapsAt w' sa len cap zs :=
  ⟨h.le, h.max, fun h0 => by
    obtain ⟨b, o, e, hb, hc⟩ := h.at_ h0
    exact ⟨b, o, e, Nat.lt_of_lt_of_le hb k.size, fun j hj => (k.cell_far ⟨b, o + j, none⟩ hb (by simp)).trans (hc j hj)⟩⟩

/-- The room that a region has. -/
def roomN (z : Int) : Nat := (max 0 (min z 256)).toNat
theorem roomN_le (z : Int) : roomN z ≤ 256 := by unfold roomN; omega
def rooms (zs : Nat → Int) (m : Nat) : List Nat := (List.range m).map fun j => roomN (zs j)
theorem rooms_len (zs : Nat → Int) (m : Nat) : (rooms zs m).length = m := by simp [rooms]
theorem rooms_succ (zs : Nat → Int) (m : Nat) : rooms zs (m + 1) = rooms zs m ++ [roomN (zs m)] := by simp [rooms, List.range_succ]

set_option maxHeartbeats 2000000 in
theorem roomsOf_any (sa : Option Addr) (len cap : Nat) (zs : Nat → Int) (w : World) (h : CapsAt w sa len cap zs) :
    Calls Tryd.prog 32 #[.slice sa len cap] w fun e w' => ∃ r cp, e = .returned (.slice (some ⟨r, 0, none⟩) (min len 64) cp) ∧ w.grownBy w' none ∧ RowOf w' w.heap.size r cp (rooms zs (min len 64)) := by
  obtain ⟨hle, hmax, hat⟩ := h
  have HAT := Lib.hid hat
  have hmk : ∀ W : World, (Instr.makeSlice 30 (.int .i64 0) (.int .i64 64)).run Tryd.prog W = _ := fun W => make_ints 0 64 (by omega) (by omega) W
  have k0 := World.grownBy_alloc w (.cells (madeCells #[.int .i64 0] 64) 3) none
  have hR0 := make_room w w.heap.size 64 (Nat.le_refl _) (by omega)
  obtain ⟨i0, hi0, hz0, hz1, hz2⟩ := int_info
  have I0 := Lib.hid hi0
  have I1 := Lib.hid hz0
  have I2 := Lib.hid hz1
  have I3 := Lib.hid hz2
  have hmx : cap ≤ 9223372036854775807 := by unfold maxLen at hmax; omega
  clear hi0 hz0 hz1 hz2 hat hmax
  obtain ⟨B, hB⟩ : ∃ B, B = w.heap.size := ⟨_, rfl⟩
  have HB := Lib.hid hB
  have hle0 : B ≤ (w.alloc (.cells (madeCells #[.int .i64 0] 64) 3)).heap.size := by rw [hB]; exact k0.size
  have hR1 : RowOf (w.alloc (.cells (madeCells #[.int .i64 0] 64) 3)) B w.heap.size 64 (rooms zs 0) := by rw [hB]; exact hR0
  clear hR0 hB
  have e64 : max (64 : Int) 0 = 64 := by decide
  have hcl : Hid (∀ (z : Int) (v : World), Calls Tryd.prog 58 #[.int .i64 z, .int .i64 0, .int .i64 256] v fun e w' => e = .returned (.int .i64 (roomN z : Nat)) ∧ v = w') := Lib.hid fun z v => by
    have := clamp_any z 0 256 v
    rwa [show max 0 (min z 256) = ((roomN z : Nat) : Int) by unfold roomN; omega] at this
  by_cases hl : 64 < len
  all_goals
    first | (have hm : min len 64 = 64 := (by omega); rw [hm]; clear hm) | (have hm : min len 64 = len := (by omega); rw [hm]; clear hm)
    go_enter Tryd.func32, Tryd.ntmps32
    go_wp2
    clear hmk
    generalize w.alloc (.cells (madeCells #[.int .i64 0] 64) 3) = w1 at hR1 k0 hle0 ⊢
    generalize hm : (if 64 < len then 64 else len) = m
    have hml : m ≤ len ∧ m ≤ 64 := by rw [← hm]; split <;> omega
    have hmc : ((64 < len ∧ m = 64) ∨ (len ≤ 64 ∧ m = len)) := by rw [← hm]; split <;> omega
    have HMC := Lib.hid hmc
    obtain ⟨hml1, hml2⟩ := hml
    clear hm hmc
    go_loopw [3, 13] (fun av it wr => ∃ j r cp : Nat, j ≤ m ∧ it = .int .i64 j ∧ av = .slice (some ⟨r, 0, none⟩) j cp ∧ RowOf wr B r cp (rooms zs j) ∧ w.grownBy wr none ∧ B ≤ wr.heap.size) (fun _ it _ => m - (intOf it).toNat)
    case atStart => exact ⟨0, w.heap.size, 64, Nat.zero_le _, rfl, rfl, hR1, k0, hle0⟩
    case round =>
      obtain ⟨j, r, cp, hj, rfl, rfl, hown, hG, hBr⟩ := hrel
      clear hR1 k0 hle0
      have hrl := rooms_len zs j
      have hrr := hown.lt
      by_cases hlt : j < m
      · obtain ⟨sb, off, rfl, hsb, hcell⟩ := HAT.out (by omega)
        have hc : wr.cell? ⟨sb, off + j, none⟩ = some (.int .i64 (zs j)) := (hG.cell_far ⟨sb, off + j, none⟩ hsb (by simp)).trans (hcell j (by omega))
        have cc := Lib.hid (hcl.out (zs j) wr)
        have hj1 : (j : Int) < (len : Int) := by omega
        have hj2 : (j : Int) < 64 := by omega
        have hrs := Lib.hid (rooms_succ zs j)
        have hrm := roomN_le (zs j)
        clear hcell
        generalize roomN (zs j) = k at cc hrs hrm
        generalize zs j = z at cc hc
        go_wp2_with fail
        refine (cc.out).mono ?_
        rintro e w' ⟨rfl, rfl⟩
        unfold RowOf at hown
        rw [hrl] at hown
        go_wp2_with (
        at_builtin
        refine wpList_append_own_at _ rfl _ _ 30 rfl B 3 i0 (.int .i64 0) 1 8 Tryd.underlying30 I0.out I1.out I2.out I3.out rfl (by decide) _ _ _ rfl (World.ownsRow.alloc hown _) ⟨wr.heap.size, 0, none⟩ 1 1 [.int .i64 (k : Int)] rfl rfl (cell_one_new _ _ _) (fun x hx => by simp at hx; subst hx; rfl) (by unfold maxLen; omega) (by omega) (by simp; omega) ?_
        intro v' w5 hown' hgrow3 hnil3 hat0
        have hgr : (wr.alloc (.cells #[.int .i64 (k : Int)] 3)).grownBy w5 (some r) := hgrow3
        have hnn : v' ≠ .slice none 0 0 := fun h => absurd (hnil3.1 h).2 (by decide)
        have k4 := World.grownBy_alloc wr (.cells #[.int .i64 (k : Int)] 3) none
        have hat1 : v'.ownBlock = some r ∨ v'.ownBlock = some (wr.alloc (.cells #[.int .i64 (k : Int)] 3)).heap.size := hat0
        clear hgrow3 hnil3 hat0
        have hG5 : w.grownBy w5 none := grow_on (grow_to hG k4) hgr (by rw [← HB.out]; omega)
        have hB5 : B ≤ w5.heap.size := Nat.le_trans hBr (Nat.le_trans k4.size hgr.size)
        obtain ⟨r', cp', rfl, hown5⟩ := row_of_owns hown' (F := rooms zs (j + 1)) (by rw [rooms_len]) (by rw [hrs.out, ints_snoc]) hnn
        rw [rooms_len]
        clear hgr hown' hnn k4 hG hBr hown
        )
        exact ⟨⟨j + 1, r', cp', by omega, by go_num, rfl, hown5, hG5, hB5⟩, by simp [intOf]; omega⟩
      · have e : j = m := by omega
        subst e
        rcases HMC.out with ⟨h1, rfl⟩ | ⟨h1, rfl⟩
        all_goals
          first | (exfalso; omega) | (go_wp2; go_ret; exact ⟨r, cp, rfl, hG, HB.out ▸ hown⟩)

/-- How many places lie ahead of region i. -/
def pre (n : Nat → Nat) : Nat → Nat
  | 0 => 0
  | i + 1 => pre n i + n i
theorem pre_succ (n : Nat → Nat) (i : Nat) : pre n (i + 1) = pre n i + n i := rfl
theorem pre_mono (n : Nat → Nat) (i : Nat) : ∀ j, i ≤ j → pre n i ≤ pre n j
  | 0, h => by have : i = 0 := by omega
               subst this; exact Nat.le_refl _
  | j + 1, h => by
    by_cases e : i = j + 1
    · subst e; exact Nat.le_refl _
    · have := pre_mono n i j (by omega)
      rw [pre_succ]; omega
theorem pre_le (n : Nat → Nat) (h : ∀ t, n t ≤ 256) : ∀ j, pre n j ≤ 256 * j
  | 0 => Nat.le_refl _
  | j + 1 => by have := pre_le n h j; have := h j; rw [pre_succ]; omega
def nOf (zs : Nat → Int) : Nat → Nat := fun t => roomN (zs t)
theorem rooms_at (zs : Nat → Int) (m j : Nat) (h : j < m) : (rooms zs m)[j]'(by rw [rooms_len]; exact h) = nOf zs j := by simp [rooms, nOf]

set_option maxHeartbeats 1000000 in
theorem sum_any (B r cp m : Nat) (zs : Nat → Int) (w : World) (h : RowOf w B r cp (rooms zs m)) (hm : m ≤ 64) :
    Calls Tryd.prog 33 #[.slice (some ⟨r, 0, none⟩) m cp] w fun e w' => e = .returned (.int .i64 (pre (nOf zs) m : Nat)) ∧ w = w' := by
  have HC : Hid (∀ j, j < m → w.cell? ⟨r, j, none⟩ = some (.int .i64 (nOf zs j : Nat))) := Lib.hid fun j hj => by
    rw [h.cell j (by rw [rooms_len]; exact hj), rooms_at zs m j hj]
  have HL : Hid (∀ j, j ≤ m → pre (nOf zs) j ≤ 16384 ∧ nOf zs j ≤ 256) := Lib.hid fun j hj => ⟨by have := pre_le (nOf zs) (fun t => roomN_le (zs t)) j; omega, roomN_le _⟩
  clear h
  go_enter Tryd.func33, Tryd.ntmps33
  go_wp2
  go_loop [3, 8] (fun sv it => ∃ j : Nat, j ≤ m ∧ it = .int .i64 j ∧ sv = .int .i64 (pre (nOf zs) j : Nat)) (fun _ it => m - (intOf it).toNat)
  case atStart => exact ⟨0, Nat.zero_le _, rfl, rfl⟩
  case round =>
    obtain ⟨j, hj, rfl, rfl⟩ := hrel
    by_cases hlt : j < m
    · have hc := HC.out j hlt
      obtain ⟨h1, h2⟩ := HL.out j hj
      have hp := Lib.hid (pre_succ (nOf zs) j)
      generalize pre (nOf zs) j = a at *
      generalize nOf zs j = c at *
      go_wp2
      go_round
      case rel => exact ⟨j + 1, by omega, by go_num, by rw [hp.out]; go_num⟩
      case measure => simp [intOf]; omega
    · have e : j = m := by omega
      subst e
      go_wp2
      go_ret
      exact ⟨rfl, rfl⟩

end Go.Proofs.YtkkodhjolgcokaaDoor
