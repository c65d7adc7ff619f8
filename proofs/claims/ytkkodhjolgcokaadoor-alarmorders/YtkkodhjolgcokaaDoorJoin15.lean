/-
  Texts of one claim, joined, one behind the other.
-/
import Derived.Test.YtkkodhjolgcokaaDoorJoin14
import Derived.Test.YtkkodhjolgcokaaDoorJoin4
/-
  What 'book' of the laws of alarm makes; To of a book of two timers.
-/
namespace Go.Proofs.YtkkodhjolgcokaaDoor
open Go.RowKit Go.Lib
set_option maxRecDepth 100000

set_option maxRecDepth 100000 in
theorem book_made (room now : Nat) (w : World) (hr : room ≤ 256) (hnow : now < 18446744073709551616) : Calls Tryd.prog 8 #[.int .i64 room, .int .u64 (now : Nat)] w fun e w' => ∃ bb, e = .returned (.pointer (some ⟨bb, 0, none⟩)) ∧ w.grownBy w' none ∧ Bo w' w.heap.size w'.heap.size bb room now 0 (fun _ => Ti.none) := by
  have ka := World.grownBy_alloc w (.cells #[.int .i64 2, .int .i64 room] 3) none
  have CA := Lib.hid (SA.new_made _ 2 2 _ _ (caps_two w 2 room))
  have KA := Lib.hid ka
  clear ka
  go_enter Tryd.func8, Tryd.ntmps8
  go_wp2_with fail
  refine CA.out.mono ?_
  rintro e u0 ⟨sb, rb, rfl, q0, A0⟩
  have g0 := grow_to KA.out q0
  have hlo : w.heap.size ≤ (w.alloc (.cells #[.int .i64 2, .int .i64 room] 3)).heap.size := KA.out.size
  generalize (w.alloc (.cells #[.int .i64 2, .int .i64 room] 3)).heap.size = lo at A0 hlo
  clear CA q0
  have C1 : Hid (Calls Tryd.prog 19 #[.pointer (some ⟨sb, 0, none⟩), .int .i64 1] u0 fun e w' => e = .returned (.pointer (some ⟨rb, 2, none⟩)) ∧ u0.grownBy w' none) := Lib.hid (SA.region_in 1 A0 (by decide))
  go_wp2_with fail
  refine C1.out.mono ?_
  rintro e u1 ⟨rfl, q1⟩
  have A1 := A0.grown q1
  have g1 := grow_to g0 q1
  clear C1 A0 g0 q1
  have C1 : Hid (Calls Tryd.prog 20 #[.pointer (some ⟨rb, 2, none⟩), .int .u64 (now : Nat)] u1 fun e w' => ∃ bb, e = .returned (.pointer (some ⟨bb, 0, none⟩)) ∧ u1.grownBy w' none ∧ Bo w' lo w'.heap.size bb room now 0 (fun _ => Ti.none)) := Lib.hid (by
    have := bo_new 1 now hnow (by decide) A1
    have e1 : nOf (fun j => if j = 0 then 2 else (room : Int)) 1 = room := by simp [nOf, roomN]; omega
    rwa [e1] at this)
  go_wp2_with fail
  refine C1.out.mono ?_
  rintro e w0 ⟨tb, rfl, k0, H0⟩
  have G0 := grow_to g1 k0
  clear C1 A1 g1 k0
  go_wp2
  go_ret
  obtain ⟨rb, ro, pb, po, b, g, l, h, wb, H, r, s⟩ := H0
  exact ⟨tb, rfl, G0, rb, ro, pb, po, b, g, l, h, wb, H, by omega, s⟩

/-- Is a timer told at a time? -/
def Ti.told (x : Ti) (t : Nat) : Prop := x.st = 1 ∧ x.t ≤ t
instance (x : Ti) (t : Nat) : Decidable (x.told t) := inferInstanceAs (Decidable (_ ∧ _))
theorem len_two {R : List Nat} (hn : R.Nodup) (h : ∀ k, k ∈ R → k < 2) : R.length = (if 0 ∈ R then 1 else 0) + (if 1 ∈ R then 1 else 0) := by
  match R, hn, h with
  | [], _, _ => rfl
  | [x], _, h =>
    have h1 := h x (by simp)
    have : x = 0 ∨ x = 1 := by omega
    rcases this with rfl | rfl <;> rfl
  | [x, y], hn, h =>
    have h1 := h x (by simp)
    have h2 := h y (by simp)
    have h3 : x ≠ y := by simpa using hn
    have : (x = 0 ∧ y = 1) ∨ (x = 1 ∧ y = 0) := by omega
    rcases this with ⟨rfl, rfl⟩ | ⟨rfl, rfl⟩ <;> rfl
  | x :: y :: z :: l, hn, h =>
    have h1 := h x (by simp)
    have h2 := h y (by simp)
    have h3 := h z (by simp)
    simp at hn
    omega
theorem bo_to2 {w : World} {lo hi bb n now tu : Nat} {X Y : Ti} (tg : Nat) (H : Bo w lo hi bb n now tu (two X Y)) (htg : tg < 18446744073709551616) :
    Calls Tryd.prog 11 #[.pointer (some ⟨bb, 0, none⟩), .int .u64 (tg : Nat)] w fun e w' => ∃ (R : List Nat) (r cp : Nat), e = .returned (.slice (some ⟨r, 0, none⟩) ((if X.told (max now tg) then 1 else 0) + (if Y.told (max now tg) then 1 else 0) : Nat) cp) ∧ RowOf w' w.heap.size r cp R ∧ Only lo hi w w' ∧ Bo w' lo hi bb n (max now tg) tu (two (if X.told (max now tg) then X.due else X) (if Y.told (max now tg) then Y.due else Y)) ∧ R.Nodup ∧ (∀ k, k ∈ R ↔ (k = 0 ∧ X.told (max now tg)) ∨ (k = 1 ∧ Y.told (max now tg))) := by
  refine (bo_to tg H htg).mono ?_
  rintro e w' ⟨R, r, cp, he, hr, hk, hb, hn, hm, hs⟩
  have hl := two_lt X Y R _ hm
  have h0 : 0 ∈ R ↔ X.told (max now tg) := hm 0
  have h1 : 1 ∈ R ↔ Y.told (max now tg) := hm 1
  rw [two_due _ _ _ hl] at hb
  rw [len_two hn hl] at he
  simp only [h0, h1] at hb he
  refine ⟨R, r, cp, he, hr, hk, hb, hn, fun k => ⟨fun h => ?_, fun h => ?_⟩⟩
  · have hk2 := hl k h
    match k, hk2 with
    | 0, _ => exact Or.inl ⟨rfl, h0.1 h⟩
    | 1, _ => exact Or.inr ⟨rfl, h1.1 h⟩
  · rcases h with ⟨rfl, h⟩ | ⟨rfl, h⟩
    · exact h0.2 h
    · exact h1.2 h
theorem u64_low (i : Nat) (n : Nat) (hi : i ≤ 63) (h : n < 18446744073709551616) : bits .and .u64 (n : Int) ((2 ^ i - 1 : Nat) : Int) = ((n % 2 ^ i : Nat) : Int) := by
  have hp : 2 ^ i ≤ 2 ^ 63 := Nat.pow_le_pow_right (by decide) hi
  have hp0 : 0 < 2 ^ i := Nat.two_pow_pos i
  rw [bits_and_u64_nat n (2 ^ i - 1) h (by omega), Nat.and_two_pow_sub_one_eq_mod]
theorem low40 (n : Nat) (h : n < 18446744073709551616) : bits .and .u64 (n : Int) 1099511627775 = ((n % 1099511627776 : Nat) : Int) := by
  have := u64_low 40 n (by decide) h
  simpa using this
theorem low30 (n : Nat) (h : n < 18446744073709551616) : bits .and .u64 (n : Int) 1073741823 = ((n % 1073741824 : Nat) : Int) := by
  have := u64_low 30 n (by decide) h
  simpa using this
theorem low33 (n : Nat) (h : n < 18446744073709551616) : bits .and .u64 (n : Int) 8589934591 = ((n % 8589934592 : Nat) : Int) := by
  have := u64_low 33 n (by decide) h
  simpa using this
theorem low6 (n : Nat) (h : n < 18446744073709551616) : bits .and .u64 (n : Int) 63 = ((n % 64 : Nat) : Int) := by
  have := u64_low 6 n (by decide) h
  simpa using this
theorem i64and3 (n : Int) : bits .and .i64 n 3 = n % 4 := by simpa using i64_mask 2 (by decide) n
end Go.Proofs.YtkkodhjolgcokaaDoor
/-
  AlarmOrders: timers that are due at one step come by their times, and of one time as they were set; a timer that is set anew counts as set then.
-/
namespace Go.Proofs.YtkkodhjolgcokaaDoor
open Go.RowKit Go.Lib
set_option maxRecDepth 100000
set_option linter.unusedVariables false

/-- A row of numbers of the law's own. -/
def RowA (w : World) (mb n : Nat) (A : Nat → Nat) : Prop := (∀ j, j < n → w.cell? ⟨mb, j, none⟩ = some (.int .i64 (A j : Nat)) ∧ w.frozen? ⟨mb, j, none⟩ = false) ∧ mb < w.heap.size
theorem RowA.kept {w w' : World} {mb n : Nat} {A : Nat → Nat} (H : RowA w mb n A) (k : w.grownBy w' none) : RowA w' mb n A :=
  ⟨fun j hj => ⟨(k.cell_far ⟨mb, j, none⟩ H.2 (by simp)).trans (H.1 j hj).1, (k.frozen_far ⟨mb, j, none⟩ H.2 (by simp)).trans (H.1 j hj).2⟩, Nat.lt_of_lt_of_le H.2 k.size⟩
theorem RowA.only {w w' : World} {mb n lo hi : Nat} {A : Nat → Nat} (H : RowA w mb n A) (k : Only lo hi w w') (h : hi ≤ mb) : RowA w' mb n A :=
  ⟨fun j hj => ⟨(k.cell' mb j H.2 (Or.inr h)).trans (H.1 j hj).1, (k.frozen' mb j H.2 (Or.inr h)).trans (H.1 j hj).2⟩, Nat.lt_of_lt_of_le H.2 k.size⟩
theorem RowA.set {w : World} {mb n : Nat} {A : Nat → Nat} (H : RowA w mb n A) (p v : Nat) (hp : p < n) : RowA (w.setCell ⟨mb, p, none⟩ (.int .i64 (v : Nat))) mb n (upV A p v) := by
  refine ⟨fun j hj => ⟨?_, (World.frozen?_setCell ..).trans (H.1 j hj).2⟩, by rw [size_set]; exact H.2⟩
  by_cases e : j = p
  · subst e; rw [upV_same]; exact World.cell?_setCell_same _ _ _ (H.1 j hj).1
  · rw [upV_other _ _ _ _ e, World.cell?_setCell_other _ _ _ _ (by intro x; injection x with x1 x2; exact e x2.symm)]; exact (H.1 j hj).1
theorem RowA.same {w : World} {mb n : Nat} {A B : Nat → Nat} (H : RowA w mb n A) (h : ∀ j, j < n → A j = B j) : RowA w mb n B :=
  ⟨fun j hj => by rw [← h j hj]; exact H.1 j hj, H.2⟩

/-- Timers 0 .. k - 1, each set for its time. -/
def ordT (gs : Nat → Nat) (k : Nat) (h u : Nat → Nat) : Nat → Ti := fun j => if j < k then ⟨true, 1, h j, gs j % 64, 0, u j⟩ else Ti.none
theorem ordT_new (gs h u : Nat → Nat) : (fun _ => Ti.none) = ordT gs 0 h u := by funext j; simp [ordT]
theorem ordT_step (gs h u : Nat → Nat) (k : Nat) : upV (upV (ordT gs k h u) k Ti.idle) k ⟨true, 1, h k, gs k % 64, 0, u k⟩ = ordT gs (k + 1) h u := by
  funext j
  by_cases e : j = k
  · subst e; rw [upV_same]; simp [ordT]
  · rw [upV_other _ _ _ _ e, upV_other _ _ _ _ e]
    unfold ordT
    by_cases h1 : j < k
    · rw [if_pos h1, if_pos (by omega)]
    · rw [if_neg h1, if_neg (by omega)]
theorem ordT_again (gs h u : Nat → Nat) (n q x y : Nat) (hq : q < n) : upV (ordT gs n h u) q ⟨true, 1, x, gs q % 64, 0, y⟩ = ordT gs n (upV h q x) (upV u q y) := by
  funext j
  by_cases e : j = q
  · subst e; rw [upV_same]; simp [ordT, hq, upV_same]
  · rw [upV_other _ _ _ _ e]
    unfold ordT
    rw [upV_other _ _ _ _ e, upV_other _ _ _ _ e]
theorem ordT_in (gs h u : Nat → Nat) (n j : Nat) (hj : j < n) : ordT gs n h u j = ⟨true, 1, h j, gs j % 64, 0, u j⟩ := by unfold ordT; rw [if_pos hj]
theorem ordT_out (gs h u : Nat → Nat) (n j : Nat) (hj : n ≤ j) : ordT gs n h u j = Ti.none := by unfold ordT; rw [if_neg (by omega)]
theorem all_told (gs h u : Nat → Nat) (n j : Nat) : (ordT gs n h u j).st = 1 ∧ (ordT gs n h u j).t ≤ 64 ↔ j < n := by
  constructor
  · intro hh
    rcases Nat.lt_or_ge j n with h1 | h1
    · exact h1
    · rw [ordT_out _ _ _ _ _ h1] at hh; exact absurd hh.1 (by decide)
  · intro hj
    rw [ordT_in _ _ _ _ _ hj]
    exact ⟨rfl, by have := Nat.mod_lt (gs j) (show 0 < 64 by decide); show gs j % 64 ≤ 64; omega⟩
theorem len_all {R : List Nat} {n : Nat} (hd : R.Nodup) (h : ∀ k, k ∈ R ↔ k < n) : R.length = n := by
  have hp : R.Perm (List.range n) := (List.perm_ext_iff_of_nodup hd List.nodup_range).2 fun k => (h k).trans List.mem_range.symm
  rw [hp.length_eq, List.length_range]
theorem none_set {S : Nat → Option (Nat × Nat)} (h : ∀ k, S k = none) : ∀ n, setN S n = 0
  | 0 => rfl
  | n + 1 => by
    have ih := none_set h n
    unfold setN at *
    simp [sumN, ih, h n]
theorem cnt_below (n : Nat) (f : Nat → Bool) (hf : ∀ j, f j = decide (j < n)) : ∀ m, cnt f m = min n m
  | 0 => by simp [cnt]
  | m + 1 => by
    have ih := cnt_below n f hf m
    simp only [cnt, ih, hf m]
    by_cases h : m < n
    · simp [h]; omega
    · simp [h]; omega

set_option maxRecDepth 100000 in
set_option maxHeartbeats 64000000 in
theorem orders_walk8 (sa : Option Addr) (len cap sb off : Nat) (gs : Nat → Nat) (sa2 : Option Addr) (len2 cap2 sb2 off2 : Nat) (zs : Nat → Int) (w : World) (hT : TabAt w)
    (_hm : len ≤ maxLen) (hs : 0 < len → sa = some ⟨sb, off, none⟩ ∧ sb < w.heap.size) (hz : ∀ j, j < len → w.cell? ⟨sb, off + j, none⟩ = some (.int .u64 ((gs j : Nat) : Int)) ∧ gs j < 18446744073709551616)
    (_hm2 : len2 ≤ maxLen) (hs2 : 0 < len2 → sa2 = some ⟨sb2, off2, none⟩ ∧ sb2 < w.heap.size) (hz2 : ∀ j, j < len2 → w.cell? ⟨sb2, off2 + j, none⟩ = some (.int .i64 (zs j))) :
    Calls Tryd.prog 4 #[.slice sa len cap, .slice sa2 len2 cap2] w fun e w' => e = .returned (.bool true) ∧ w.grownBy w' none := by
  have C0 := Lib.hid (alive8 w hT)
  have R1 : Hid (∀ (v : World) (j : Nat), w.grownBy v none → j < len → sa = some ⟨sb, off, none⟩ ∧ v.cell? ⟨sb, off + j, none⟩ = some (.int .u64 ((gs j : Nat) : Int)) ∧ gs j < 18446744073709551616) := Lib.hid fun v j k hj => by
    obtain ⟨h1, h2⟩ := hs (by omega)
    exact ⟨h1, (k.cell_far ⟨sb, off + j, none⟩ h2 (by simp)).trans (hz j hj).1, (hz j hj).2⟩
  have R2 : Hid (∀ (v : World) (j : Nat), w.grownBy v none → j < len2 → sa2 = some ⟨sb2, off2, none⟩ ∧ v.cell? ⟨sb2, off2 + j, none⟩ = some (.int .i64 (zs j))) := Lib.hid fun v j k hj => by
    obtain ⟨h1, h2⟩ := hs2 (by omega)
    exact ⟨h1, (k.cell_far ⟨sb2, off2 + j, none⟩ h2 (by simp)).trans (hz2 j hj)⟩
  clear hs hz hs2 hz2
  by_cases hl0 : 31 < len
  · have q : (31 : Int) < (len : Int) := by omega
    go_enter Tryd.func4, Tryd.ntmps4
    go_wp2_with fail
    refine C0.out.mono ?_
    rintro e w1 ⟨rfl, k1⟩
    go_wp2
    go_ret
    exact ⟨rfl, k1⟩
  have ql : ¬ (31 : Int) < (len : Int) := by omega
  by_cases hl2 : 31 < len2
  · have q : (31 : Int) < (len2 : Int) := by omega
    go_enter Tryd.func4, Tryd.ntmps4
    go_wp2_with fail
    refine C0.out.mono ?_
    rintro e w1 ⟨rfl, k1⟩
    go_wp2
    go_ret
    exact ⟨rfl, k1⟩
  have ql2 : ¬ (31 : Int) < (len2 : Int) := by omega
  have hmk : ∀ W : World, (Instr.makeSlice 30 (.int .i64 (len : Nat)) (.int .i64 (len : Nat))).run Tryd.prog W = _ := fun W => make_ints len len (Nat.le_refl _) (by omega) W
  have CB : Hid (∀ v : World, Calls Tryd.prog 8 #[.int .i64 31, .int .u64 0] v fun e w' => ∃ bb, e = .returned (.pointer (some ⟨bb, 0, none⟩)) ∧ v.grownBy w' none ∧ Bo w' v.heap.size w'.heap.size bb 31 0 0 (fun _ => Ti.none)) := Lib.hid fun v => book_made 31 0 v (by decide) (by decide)
  have TT := Lib.hid hT
  clear hT
  go_enter Tryd.func4, Tryd.ntmps4
  go_wp2_with fail
  refine C0.out.mono ?_
  rintro e u0 ⟨rfl, k⟩
  have GG := Lib.hid k
  clear k C0
  go_wp2_with fail
  refine (CB.out _).mono ?_
  rintro e u1 ⟨bb, rfl, k, h⟩
  have hlo : Hid (w.heap.size ≤ u0.heap.size ∧ u0.heap.size ≤ u1.heap.size) := Lib.hid ⟨GG.out.size, k.size⟩
  have hl0 : Hid (0 < u0.heap.size) := Lib.hid (by have := tab_pos TT.out; have := hlo.out; omega)
  replace GG := Lib.hid (GG.out.trans k)
  have H := Lib.hid h
  clear k h CB
  have k := World.grownBy_alloc u1 (.cells (madeCells #[.int .i64 0] len) 3) none
  have HM : Hid (RowA (u1.alloc (.cells (madeCells #[.int .i64 0] len) 3)) u1.heap.size len (fun j => if j < 0 then j + 1 else 0)) := Lib.hid ⟨fun j hj => ⟨by rw [World.cell?_alloc_new]; simpa using made_at (.int .i64 0) len j hj, by simp⟩, by simp⟩
  replace GG := Lib.hid (GG.out.trans k)
  have T := Lib.hid (TT.out.kept GG.out)
  replace H : Hid (Bo (u1.alloc (.cells (madeCells #[.int .i64 0] len) 3)) u0.heap.size u1.heap.size bb 31 0 0 (ordT gs 0 (fun _ => 1) (fun j => j))) := Lib.hid (by
    rw [← ordT_new]; exact H.out.grown k)
  clear k TT
  go_wp2_with fail
  generalize u1.alloc (.cells (madeCells #[.int .i64 0] len) 3) = v0 at *
  generalize u0.heap.size = lo at *
  generalize u1.heap.size = mb at *
  clear hmk
  go_loopw [7, 34] (fun tv it wr => ∃ k : Nat, k ≤ len ∧ it = .int .i64 k ∧ tv = .int .i64 k ∧ Hid (Bo wr lo mb bb 31 0 k (ordT gs k (fun _ => 1) (fun j => j))) ∧ Hid (RowA wr mb len (fun j => if j < k then j + 1 else 0)) ∧ Hid (w.grownBy wr none) ∧ Hid (TabAt wr)) (fun _ it _ => len - (intOf it).toNat)
  case atStart => exact ⟨0, Nat.zero_le _, rfl, rfl, H, HM, GG, T⟩
  case round =>
    clear H HM GG T
    obtain ⟨k, hk, rfl, rfl, H, HM, GG, T⟩ := hrel
    by_cases hlt : k < len
    · have qk : (k : Int) < (len : Int) := by omega
      obtain ⟨rfl, ck, zkb⟩ := R1.out wr k GG.out hlt
      have mk1 := low6 (gs k) zkb
      obtain ⟨g, hgk⟩ : ∃ g, gs k % 64 = g := ⟨_, rfl⟩
      rw [hgk] at mk1
      have bg : g < 64 := by omega
      have C : Hid (Calls Tryd.prog 9 #[.pointer (some ⟨bb, 0, none⟩)] wr fun e w' => e = .returned (.tuple #[.int .i64 (k : Nat), .bool true]) ∧ Only lo mb wr w' ∧ Bo w' lo mb bb 31 0 k (upV (ordT gs k (fun _ => 1) (fun j => j)) k Ti.idle)) := Lib.hid (bo_make_some k H.out T.out (by omega) (by rw [ordT_out _ _ _ _ _ (Nat.le_refl _)]; rfl) (fun q hq => by rw [ordT_in _ _ _ _ _ hq]))
      generalize hzk : gs k = zk at *
      go_wp2_with fail
      refine C.out.mono ?_
      rintro e v1 ⟨rfl, k1, h1⟩
      replace H := Lib.hid h1
      replace HM := Lib.hid (HM.out.only k1 (Nat.le_refl _))
      replace GG := Lib.hid (Only.on GG.out k1 (by have := hlo.out; omega))
      replace T := Lib.hid (tab_only T.out k1 (by have := hl0.out; omega))
      clear k1 h1 C ck zkb
      have c0 := (HM.out.1 k hlt).1
      have f0 := (HM.out.1 k hlt).2
      dsimp only at c0
      rw [if_neg (Nat.lt_irrefl k)] at c0
      have kS : Only mb (mb + 1) v1 (v1.setCell ⟨mb, k, none⟩ (.int .i64 ((k + 1 : Nat) : Int))) := Only.set _ _ _ (Nat.le_refl _) (Nat.lt_succ_self _)
      have C : Hid (Calls Tryd.prog 10 #[.pointer (some ⟨bb, 0, none⟩), .int .i64 (k : Nat), .int .u64 1, .int .u64 (g : Nat), .int .u64 0] (v1.setCell ⟨mb, k, none⟩ (.int .i64 ((k + 1 : Nat) : Int))) fun e w' => e = .returned (.bool true) ∧ Only lo mb (v1.setCell ⟨mb, k, none⟩ (.int .i64 ((k + 1 : Nat) : Int))) w' ∧ Bo w' lo mb bb 31 0 (k + 1) (ordT gs (k + 1) (fun _ => 1) (fun j => j))) := Lib.hid (by
        have h := bo_arm_in k 1 g 0 (H.out.kept kS (Or.inl (Nat.le_refl _))) (by rw [upV_same]; rfl) (by decide) (by omega) (by decide) (by omega)
        have e := ordT_step gs (fun _ => 1) (fun j => j) k
        rw [hzk, hgk] at e
        rw [e] at h
        exact h)
      replace HM : Hid (RowA (v1.setCell ⟨mb, k, none⟩ (.int .i64 ((k + 1 : Nat) : Int))) mb len (fun j => if j < k + 1 then j + 1 else 0)) := Lib.hid ((HM.out.set k (k + 1) hlt).same fun j hj => by
        by_cases e : j = k
        · subst e; rw [upV_same, if_pos (Nat.lt_succ_self _)]
        · rw [upV_other _ _ _ _ e]
          by_cases h : j < k
          · rw [if_pos h, if_pos (by omega)]
          · rw [if_neg h, if_neg (by omega)])
      replace GG := Lib.hid (Only.on GG.out kS (by have := hlo.out; omega))
      replace T := Lib.hid (tab_only T.out kS (by have := hl0.out; have := hlo.out; omega))
      clear kS H
      rw [Int.natCast_add] at C
      go_wp2_with fail
      refine C.out.mono ?_
      rintro e v2 ⟨rfl, k1, h1⟩
      have H := Lib.hid h1
      replace HM := Lib.hid (HM.out.only k1 (Nat.le_refl _))
      replace GG := Lib.hid (Only.on GG.out k1 (by have := hlo.out; omega))
      replace T := Lib.hid (tab_only T.out k1 (by have := hl0.out; omega))
      clear k1 h1 C c0 f0
      go_wp2
      go_roundw
      case rel => exact ⟨k + 1, hlt, by go_num, by go_num, H, HM, GG, T⟩
      case measure => simp [intOf]; omega
    · obtain rfl : k = len := by omega
      have q : ¬ (k : Int) < (k : Int) := by omega
      replace HM : Hid (RowA wr mb k (fun j => j + 1)) := Lib.hid (HM.out.same fun j hj => by rw [if_pos hj])
      clear T hl0 hk
      go_wp2_with fail
      go_loopw [7, 65] (fun tv it wr => ∃ (m tu : Nat) (h u : Nat → Nat), m ≤ len2 ∧ it = .int .i64 m ∧ tv = .int .i64 tu ∧ tu ≤ k + m ∧ Hid (Bo wr lo mb bb 31 0 tu (ordT gs k h u)) ∧ Hid (RowA wr mb k (fun j => u j + 1)) ∧ Hid (w.grownBy wr none)) (fun _ it _ => len2 - (intOf it).toNat)
      case atStart => exact ⟨0, k, fun _ => 1, fun j => j, Nat.zero_le _, rfl, rfl, by omega, H, HM, GG⟩
      case round =>
        clear H HM GG
        obtain ⟨m, tu, h, u, hm, rfl, rfl, htu, H, HM, GG⟩ := hrel
        by_cases hlt : m < len2
        · have qm : (m : Int) < (len2 : Int) := by omega
          obtain ⟨rfl, cm⟩ := R2.out wr m GG.out hlt
          generalize zs m = z at *
          by_cases hz0 : 0 ≤ z ∧ z < (k : Int)
          · obtain ⟨qz0, qz1⟩ := hz0
            obtain ⟨q, rfl⟩ := Int.eq_ofNat_of_zero_le qz0
            have hq : q < k := by omega
            obtain ⟨rfl, cq, zqb⟩ := R1.out wr q GG.out hq
            have mk1 := low6 (gs q) zqb
            obtain ⟨g, hgk⟩ : ∃ g, gs q % 64 = g := ⟨_, rfl⟩
            rw [hgk] at mk1
            have bg : g < 64 := by omega
            generalize hzk : gs q = zq at *
            have c0 := (HM.out.1 q hq).1
            have f0 := (HM.out.1 q hq).2
            have kS : Only mb (mb + 1) wr (wr.setCell ⟨mb, q, none⟩ (.int .i64 ((tu + 1 : Nat) : Int))) := Only.set _ _ _ (Nat.le_refl _) (Nat.lt_succ_self _)
            have C : Hid (Calls Tryd.prog 10 #[.pointer (some ⟨bb, 0, none⟩), .int .i64 (q : Nat), .int .u64 2, .int .u64 (g : Nat), .int .u64 0] (wr.setCell ⟨mb, q, none⟩ (.int .i64 ((tu + 1 : Nat) : Int))) fun e w' => e = .returned (.bool true) ∧ Only lo mb (wr.setCell ⟨mb, q, none⟩ (.int .i64 ((tu + 1 : Nat) : Int))) w' ∧ Bo w' lo mb bb 31 0 (tu + 1) (ordT gs k (upV h q 2) (upV u q tu))) := Lib.hid (by
              have hb := bo_arm_in q 2 g 0 (H.out.kept kS (Or.inl (Nat.le_refl _))) (by rw [ordT_in _ _ _ _ _ hq]) (by decide) (by omega) (by decide) (by omega)
              have e := ordT_again gs h u k q 2 tu hq
              rw [hzk, hgk] at e
              rw [e] at hb
              exact hb)
            replace HM : Hid (RowA (wr.setCell ⟨mb, q, none⟩ (.int .i64 ((tu + 1 : Nat) : Int))) mb k (fun j => upV u q tu j + 1)) := Lib.hid ((HM.out.set q (tu + 1) hq).same fun j hj => by
              by_cases e : j = q
              · subst e; rw [upV_same, upV_same]
              · rw [upV_other _ _ _ _ e, upV_other _ _ _ _ e])
            have GS := Lib.hid (Only.on GG.out kS (by have := hlo.out; omega))
            have cq2 : (wr.setCell ⟨mb, q, none⟩ (.int .i64 ((tu : Int) + 1))).cell? ⟨sb, off + q, none⟩ = some (.int .u64 (zq : Nat)) := by
              have h := (R1.out _ q GS.out hq).2.1
              rw [hzk] at h
              exact h
            clear kS H
            rw [Int.natCast_add] at C
            go_wp2_with fail
            refine C.out.mono ?_
            rintro e v2 ⟨rfl, k1, h1⟩
            have H := Lib.hid h1
            replace HM := Lib.hid (HM.out.only k1 (Nat.le_refl _))
            replace GG := Lib.hid (Only.on GS.out k1 (by have := hlo.out; omega))
            clear k1 h1 C c0 f0 GS
            go_wp2
            go_roundw
            case rel => exact ⟨m + 1, tu + 1, _, _, hlt, by go_num, by go_num, by omega, H, HM, GG⟩
            case measure => simp [intOf]; omega
          · by_cases hz1 : 0 ≤ z
            · have hz2 : ¬ z < (k : Int) := fun x => hz0 ⟨hz1, x⟩
              clear hz0
              go_wp2
              go_roundw
              case rel => exact ⟨m + 1, tu, h, u, hlt, by go_num, rfl, by omega, H, HM, GG⟩
              case measure => simp [intOf]; omega
            · clear hz0
              go_wp2
              go_roundw
              case rel => exact ⟨m + 1, tu, h, u, hlt, by go_num, rfl, by omega, H, HM, GG⟩
              case measure => simp [intOf]; omega
        · obtain rfl : m = len2 := by omega
          have q : ¬ (m : Int) < (m : Int) := by omega
          have C : Hid (Calls Tryd.prog 11 #[.pointer (some ⟨bb, 0, none⟩), .int .u64 64] wr fun e w' => ∃ (R : List Nat) (r cp : Nat), e = .returned (.slice (some ⟨r, 0, none⟩) k cp) ∧ RowOf w' w.heap.size r cp R ∧ Only lo mb wr w' ∧ Bo w' lo mb bb 31 64 tu (dueT (ordT gs k h u) R) ∧ R.length = k ∧ (∀ j, j ∈ R ↔ j < k) ∧ ∀ i (h1 : i < R.length) (h2 : i + 1 < R.length), gs R[i] % 64 < gs R[i + 1] % 64 ∨ gs R[i] % 64 = gs R[i + 1] % 64 ∧ u R[i] < u R[i + 1]) := Lib.hid (by
            refine (bo_to 64 H.out (by decide)).mono ?_
            rintro e w' ⟨R, r, cp, he, hr, hk, hb, hd, hm, hs⟩
            have hm2 : ∀ j, j ∈ R ↔ j < k := fun j => (hm j).trans (all_told gs h u k j)
            have hl := len_all hd hm2
            rw [hl] at he
            refine ⟨R, r, cp, he, hr.mono GG.out.size, hk, hb, hl, hm2, fun i h1 h2 => ?_⟩
            have hp := List.pairwise_iff_getElem.1 hs i (i + 1) h1 h2 (Nat.lt_succ_self _)
            rw [ordT_in _ _ _ _ _ ((hm2 _).1 (List.getElem_mem h1)), ordT_in _ _ _ _ _ ((hm2 _).1 (List.getElem_mem h2))] at hp
            exact hp)
          clear H
          go_wp2_with fail
          refine C.out.mono ?_
          rintro e v9 ⟨R, r, cp, rfl, hr, k1, h1, hRl, hRm, hRp⟩
          have HR := Lib.hid hr
          have H := Lib.hid h1
          replace HM := Lib.hid (HM.out.only k1 (Nat.le_refl _))
          replace GG := Lib.hid (Only.on GG.out k1 (by have := hlo.out; omega))
          have HL := Lib.hid hRl
          have HRM := Lib.hid hRm
          have HRP := Lib.hid hRp
          have hg0 : v9.grownBy v9 none := ⟨rfl, rfl, rfl, Nat.le_refl _, fun _ _ _ => rfl⟩
          have HG := Lib.hid hg0
          clear k1 h1 C hr hRl hRm hRp hg0 hlo htu
          go_wp2_with fail
          go_loopw [15] (fun it wq => ∃ i0 : Nat, it = .int .i64 ((i0 : Int) + 1) ∧ (i0 + 1 ≤ k ∨ i0 = 0) ∧ Hid (v9.grownBy wq none)) (fun it _ => k + 1 - (intOf it).toNat)
          case atStart => exact ⟨0, by simp, Or.inr rfl, HG⟩
          case round =>
            clear HG
            obtain ⟨i0, rfl, hi0, HG⟩ := hrel
            by_cases hlt : i0 + 1 < k
            · have qi : (i0 : Int) + 1 < (k : Int) := by omega
              have h1 : i0 < R.length := by rw [HL.out]; omega
              have h2 : i0 + 1 < R.length := by rw [HL.out]; omega
              have hP := HRP.out i0 h1 h2
              have hx := (HRM.out _).1 (List.getElem_mem h1)
              have hy := (HRM.out _).1 (List.getElem_mem h2)
              have FX : Hid (∀ v, v9.grownBy v none → v.cell? ⟨r, i0, none⟩ = some (.int .i64 (R[i0] : Nat)) ∧ v.cell? ⟨r, i0 + 1, none⟩ = some (.int .i64 (R[i0 + 1] : Nat)) ∧ v.cell? ⟨mb, R[i0], none⟩ = some (.int .i64 ((u R[i0] + 1 : Nat) : Int)) ∧ v.cell? ⟨mb, R[i0 + 1], none⟩ = some (.int .i64 ((u R[i0 + 1] + 1 : Nat) : Int))) := Lib.hid fun v kv => ⟨(HR.out.kept kv (by simp)).cell i0 h1, (HR.out.kept kv (by simp)).cell (i0 + 1) h2, ((HM.out.kept kv).1 _ hx).1, ((HM.out.kept kv).1 _ hy).1⟩
              have FG : Hid (∀ v, v9.grownBy v none → v.cell? ⟨sb, off + R[i0], none⟩ = some (.int .u64 ((gs R[i0] : Nat) : Int)) ∧ v.cell? ⟨sb, off + R[i0 + 1], none⟩ = some (.int .u64 ((gs R[i0 + 1] : Nat) : Int))) := Lib.hid fun v kv => ⟨(R1.out v _ (GG.out.trans kv) hx).2.1, (R1.out v _ (GG.out.trans kv) hy).2.1⟩
              obtain ⟨rfl, _, bx⟩ := R1.out v9 _ GG.out hx
              have bx2 := (R1.out v9 _ GG.out hy).2.2
              have mx := low6 _ bx
              have my := low6 _ bx2
              generalize R[i0] = x at *
              generalize R[i0 + 1] = y at *
              generalize gs x = gx at *
              generalize gs y = gy at *
              generalize u x = ux at *
              generalize u y = uy at *
              obtain ⟨c1, c2, c3, c4⟩ := FX.out wr HG.out
              obtain ⟨d1, d2⟩ := FG.out wr HG.out
              rw [Int.natCast_add] at c3 c4
              have qx : (x : Int) < (k : Int) := by omega
              have qy : (y : Int) < (k : Int) := by omega
              have qx2 : ¬ k ≤ x := by omega
              have qy2 : ¬ k ≤ y := by omega
              have qx0 : decide ((x : Int) < 0) = false := by simp
              have qy0 : decide ((y : Int) < 0) = false := by simp
              have qx1 : decide ((k : Int) ≤ (x : Int)) = false := by simp; omega
              have qy1 : decide ((k : Int) ≤ (y : Int)) = false := by simp; omega
              obtain ⟨a, ha⟩ : ∃ a, gx % 64 = a := ⟨_, rfl⟩
              obtain ⟨b, hb⟩ : ∃ b, gy % 64 = b := ⟨_, rfl⟩
              rw [ha] at mx hP
              rw [hb] at my hP
              clear ha hb
              rcases hP with hP | ⟨hP, hU⟩
              · have qn : ¬ (b : Int) < (a : Int) := by omega
                have qe : ((a : Int) == (b : Int)) = false := by simp; omega
                have qn2 : decide ((b : Int) < (a : Int)) = false := by simp; omega
                have qe2 : decide ((a : Int) = (b : Int)) = false := by simp; omega
                have qe3 : ¬ a = b := by omega
                have qn3 : ¬ b < a := by omega
                go_wp2_with fail
                go_quiet (fail)
                have kq : wr.grownBy (wr.drewN nq) none := ⟨rfl, rfl, rfl, Nat.le_refl _, fun _ _ _ => rfl⟩
                have HG1 := Lib.hid (HG.out.trans kq)
                obtain ⟨c1, c2, c3, c4⟩ := FX.out _ HG1.out
                obtain ⟨d1, d2⟩ := FG.out _ HG1.out
                rw [Int.natCast_add] at c3 c4
                clear kq HG
                generalize wr.drewN nq = w3 at *
                go_wp2_with fail
                go_quiet (fail)
                have kq : w3.grownBy (w3.drewN nq) none := ⟨rfl, rfl, rfl, Nat.le_refl _, fun _ _ _ => rfl⟩
                have HG2 := Lib.hid (HG1.out.trans kq)
                clear kq HG1 c1 c2 c3 c4 d1 d2
                go_wp2
                go_roundw
                case rel => exact ⟨i0 + 1, by go_num, Or.inl (by omega), HG2⟩
                case measure => simp [intOf]; omega
              · subst hP
                have qu : ¬ (uy : Int) + 1 ≤ (ux : Int) + 1 := by omega
                have qu2 : decide ((uy : Int) + 1 ≤ (ux : Int) + 1) = false := by simp; omega
                have qu3 : ¬ uy ≤ ux := by omega
                have qu4 : ¬ uy + 1 ≤ ux + 1 := by omega
                go_wp2_with fail
                go_quiet (fail)
                have kq : wr.grownBy (wr.drewN nq) none := ⟨rfl, rfl, rfl, Nat.le_refl _, fun _ _ _ => rfl⟩
                have HG1 := Lib.hid (HG.out.trans kq)
                obtain ⟨c1, c2, c3, c4⟩ := FX.out _ HG1.out
                obtain ⟨d1, d2⟩ := FG.out _ HG1.out
                rw [Int.natCast_add] at c3 c4
                clear kq HG
                generalize wr.drewN nq = w3 at *
                go_wp2_with fail
                go_quiet (fail)
                have kq : w3.grownBy (w3.drewN nq) none := ⟨rfl, rfl, rfl, Nat.le_refl _, fun _ _ _ => rfl⟩
                have HG2 := Lib.hid (HG1.out.trans kq)
                clear kq HG1 c1 c2 c3 c4 d1 d2
                go_wp2
                go_roundw
                case rel => exact ⟨i0 + 1, by go_num, Or.inl (by omega), HG2⟩
                case measure => simp [intOf]; omega
            · have qi : ¬ (i0 : Int) + 1 < (k : Int) := by omega
              have CA : Hid (∀ v, v9.grownBy v none → Calls Tryd.prog 14 #[.pointer (some ⟨bb, 0, none⟩)] v fun e w' => e = .returned (.int .i64 0) ∧ v = w') := Lib.hid fun v kv => by
                have h := bo_armed (H.out.grown kv)
                rw [none_set (fun j => by
                  unfold onW dueT
                  by_cases hj : j ∈ R
                  · rw [if_pos hj]; rfl
                  · rw [if_neg hj, ordT_out _ _ _ _ _ (Nat.le_of_not_lt fun x => hj ((HRM.out j).2 x))]; rfl)] at h
                exact h
              have CC : Hid (∀ v, v9.grownBy v none → Calls Tryd.prog 15 #[.pointer (some ⟨bb, 0, none⟩)] v fun e w' => e = .returned (.int .i64 (k : Nat)) ∧ v = w') := Lib.hid fun v kv => by
                have h := bo_count (H.out.grown kv)
                rw [cnt_below k _ (fun j => by
                  unfold dueT
                  by_cases hj : j ∈ R
                  · have hk := (HRM.out j).1 hj
                    rw [if_pos hj, ordT_in _ _ _ _ _ hk]; simp [Ti.due, hk]
                  · have hk : ¬ j < k := fun x => hj ((HRM.out j).2 x)
                    rw [if_neg hj, ordT_out _ _ _ _ _ (by omega)]; simp [Ti.none, hk]) 31, show min k 31 = k by omega] at h
                exact h
              go_wp2_with fail
              refine (CA.out _ HG.out).mono ?_
              rintro e w' ⟨rfl, rfl⟩
              go_wp2_with fail
              refine (CC.out _ HG.out).mono ?_
              rintro e w' ⟨rfl, rfl⟩
              go_wp2
              go_ret
              exact ⟨rfl, GG.out.trans HG.out⟩
end Go.Proofs.YtkkodhjolgcokaaDoor
/-
  A slice of words that came in, as natural numbers with their bounds. (No condition.)
-/
namespace Go.Proofs.YtkkodhjolgcokaaDoor
open Go.ChangeShapes Go.WideShapes Go.ChangeAt Go.RowKit Go.Deep

section
variable {H : Type} {enc : TypeId × Value → H} {P : Program}
theorem open_wordsb {W : World} {t e : TypeId} {base : Nat} {v : Value} {d : DataW H} {ps : List MemPlace} (ht : P.underlying t = some (.slice e)) (he : P.underlying e = some (.int .u64)) (hc : P.cellsOf e = 1)
    (hok : Value.okWide P W .any base t v) (h : DataW.Trod enc P W 0 (fun _ => true) true t v d ps) :
    ∃ (sa : Option Addr) (len cap sb off : Nat) (zs : Nat → Nat), v = .slice sa len cap ∧ len ≤ maxLen ∧ (0 < len → sa = some ⟨sb, off, none⟩ ∧ sb < W.heap.size) ∧ (∀ j, j < len → W.cell? ⟨sb, off + j, none⟩ = some (.int .u64 ((zs j : Nat) : Int)) ∧ zs j < 18446744073709551616) := by
  obtain ⟨sa, len, cap, rfl⟩ := okWide_slice ht hok
  obtain ⟨fuel, hf⟩ := h
  rcases open_ints ht he hc hf with ⟨hcs, _⟩ | ⟨a, len', cap', zs, hcs, _, hl, hm, hz, _, hcell, hwf⟩
  · simp [Value.cells] at hcs
    obtain ⟨rfl, rfl, rfl⟩ := hcs
    exact ⟨none, 0, 0, 0, 0, fun _ => 0, rfl, Nat.zero_le _, fun h => absurd h (by omega), fun j hj => absurd hj (by omega)⟩
  · simp [Value.cells] at hcs
    obtain ⟨rfl, rfl, rfl⟩ := hcs
    simp only [if_true] at hz
    obtain ⟨b, off, spot⟩ := a
    have hsp : 0 < len → spot = none := fun h0 => by simpa [Addr.add] using World.cell?_spot (hcell 0 (by omega))
    refine ⟨_, len, cap, b, off, fun j => (zs.getD j 0).toNat, rfl, Nat.le_trans hl hm, fun h0 => ?_, fun j hj => ?_⟩
    · obtain rfl := hsp h0
      have h1 := hcell 0 (by omega)
      exact ⟨rfl, cell_block h1⟩
    · obtain rfl := hsp (by omega)
      rw [← add_plain]
      have hj2 : j < zs.length := by omega
      have hw := hwf (zs.getD j 0) (by rw [List.getD_eq_getElem?_getD, List.getElem?_eq_getElem hj2]; exact List.getElem_mem hj2)
      have h' : (0 : Int) ≤ zs.getD j 0 ∧ zs.getD j 0 ≤ 18446744073709551615 := by simpa [Lit.wf, IntKind.min, IntKind.max, IntKind.bits, IntKind.signed] using hw
      refine ⟨?_, by show (zs.getD j 0).toNat < _; omega⟩
      have e : (((zs.getD j 0).toNat : Nat) : Int) = zs.getD j 0 := by omega
      show _ = some (Value.int .u64 (((zs.getD j 0).toNat : Nat) : Int))
      rw [e]
      exact hcell j hj2
end
end Go.Proofs.YtkkodhjolgcokaaDoor
