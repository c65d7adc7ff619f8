/-
  Texts of one claim, joined, one behind the other.
-/
import Derived.Test.YtkkodhjolgcokaaDoorJoin14
import Derived.Test.YtkkodhjolgcokaaDoorJoin4
/-
  What 'book' of the laws of alarm makes; To of a book of two timers.
-/
namespace Go.Proofs.YtkkodhjolgcokaaDoor
open Go.RowKit Go.Lib
set_option maxRecDepth 100000

set_option maxRecDepth 100000 in
theorem book_made (room now : Nat) (w : World) (hr : room ≤ 256) (hnow : now < 18446744073709551616) : Calls Tryd.prog 8 #[.int .i64 room, .int .u64 (now : Nat)] w fun e w' => ∃ bb, e = .returned (.pointer (some ⟨bb, 0, none⟩)) ∧ w.grownBy w' none ∧ Bo w' w.heap.size w'.heap.size bb room now 0 (fun _ => Ti.none) := by
  have ka := World.grownBy_alloc w (.cells #[.int .i64 2, .int .i64 room] 3) none
  have CA := Lib.hid (SA.new_made _ 2 2 _ _ (caps_two w 2 room))
  have KA := Lib.hid ka
  clear ka
  go_enter Tryd.func8, Tryd.ntmps8
  go_wp2_with fail
  refine CA.out.mono ?_
  rintro e u0 ⟨sb, rb, rfl, q0, A0⟩
  have g0 := grow_to KA.out q0
  have hlo : w.heap.size ≤ (w.alloc (.cells #[.int .i64 2, .int .i64 room] 3)).heap.size := KA.out.size
  generalize (w.alloc (.cells #[.int .i64 2, .int .i64 room] 3)).heap.size = lo at A0 hlo
  clear CA q0
  have C1 : Hid (Calls Tryd.prog 19 #[.pointer (some ⟨sb, 0, none⟩), .int .i64 1] u0 fun e w' => e = .returned (.pointer (some ⟨rb, 2, none⟩)) ∧ u0.grownBy w' none) := Lib.hid (SA.region_in 1 A0 (by decide))
  go_wp2_with fail
  refine C1.out.mono ?_
  rintro e u1 ⟨rfl, q1⟩
  have A1 := A0.grown q1
  have g1 := grow_to g0 q1
  clear C1 A0 g0 q1
  have C1 : Hid (Calls Tryd.prog 20 #[.pointer (some ⟨rb, 2, none⟩), .int .u64 (now : Nat)] u1 fun e w' => ∃ bb, e = .returned (.pointer (some ⟨bb, 0, none⟩)) ∧ u1.grownBy w' none ∧ Bo w' lo w'.heap.size bb room now 0 (fun _ => Ti.none)) := Lib.hid (by
    have := bo_new 1 now hnow (by decide) A1
    have e1 : nOf (fun j => if j = 0 then 2 else (room : Int)) 1 = room := by simp [nOf, roomN]; omega
    rwa [e1] at this)
  go_wp2_with fail
  refine C1.out.mono ?_
  rintro e w0 ⟨tb, rfl, k0, H0⟩
  have G0 := grow_to g1 k0
  clear C1 A1 g1 k0
  go_wp2
  go_ret
  obtain ⟨rb, ro, pb, po, b, g, l, h, wb, H, r, s⟩ := H0
  exact ⟨tb, rfl, G0, rb, ro, pb, po, b, g, l, h, wb, H, by omega, s⟩

/-- Is a timer told at a time? -/
def Ti.told (x : Ti) (t : Nat) : Prop := x.st = 1 ∧ x.t ≤ t
instance (x : Ti) (t : Nat) : Decidable (x.told t) := inferInstanceAs (Decidable (_ ∧ _))
theorem len_two {R : List Nat} (hn : R.Nodup) (h : ∀ k, k ∈ R → k < 2) : R.length = (if 0 ∈ R then 1 else 0) + (if 1 ∈ R then 1 else 0) := by
  match R, hn, h with
  | [], _, _ => rfl
  | [x], _, h =>
    have h1 := h x (by simp)
    have : x = 0 ∨ x = 1 := by omega
    rcases this with rfl | rfl <;> rfl
  | [x, y], hn, h =>
    have h1 := h x (by simp)
    have h2 := h y (by simp)
    have h3 : x ≠ y := by simpa using hn
    have : (x = 0 ∧ y = 1) ∨ (x = 1 ∧ y = 0) := by omega
    rcases this with ⟨rfl, rfl⟩ | ⟨rfl, rfl⟩ <;> rfl
  | x :: y :: z :: l, hn, h =>
    have h1 := h x (by simp)
    have h2 := h y (by simp)
    have h3 := h z (by simp)
    simp at hn
    omega
theorem bo_to2 {w : World} {lo hi bb n now tu : Nat} {X Y : Ti} (tg : Nat) (H : Bo w lo hi bb n now tu (two X Y)) (htg : tg < 18446744073709551616) :
    Calls Tryd.prog 11 #[.pointer (some ⟨bb, 0, none⟩), .int .u64 (tg : Nat)] w fun e w' => ∃ (R : List Nat) (r cp : Nat), e = .returned (.slice (some ⟨r, 0, none⟩) ((if X.told (max now tg) then 1 else 0) + (if Y.told (max now tg) then 1 else 0) : Nat) cp) ∧ RowOf w' w.heap.size r cp R ∧ Only lo hi w w' ∧ Bo w' lo hi bb n (max now tg) tu (two (if X.told (max now tg) then X.due else X) (if Y.told (max now tg) then Y.due else Y)) ∧ R.Nodup ∧ (∀ k, k ∈ R ↔ (k = 0 ∧ X.told (max now tg)) ∨ (k = 1 ∧ Y.told (max now tg))) := by
  refine (bo_to tg H htg).mono ?_
  rintro e w' ⟨R, r, cp, he, hr, hk, hb, hn, hm, hs⟩
  have hl := two_lt X Y R _ hm
  have h0 : 0 ∈ R ↔ X.told (max now tg) := hm 0
  have h1 : 1 ∈ R ↔ Y.told (max now tg) := hm 1
  rw [two_due _ _ _ hl] at hb
  rw [len_two hn hl] at he
  simp only [h0, h1] at hb he
  refine ⟨R, r, cp, he, hr, hk, hb, hn, fun k => ⟨fun h => ?_, fun h => ?_⟩⟩
  · have hk2 := hl k h
    match k, hk2 with
    | 0, _ => exact Or.inl ⟨rfl, h0.1 h⟩
    | 1, _ => exact Or.inr ⟨rfl, h1.1 h⟩
  · rcases h with ⟨rfl, h⟩ | ⟨rfl, h⟩
    · exact h0.2 h
    · exact h1.2 h
theorem u64_low (i : Nat) (n : Nat) (hi : i ≤ 63) (h : n < 18446744073709551616) : bits .and .u64 (n : Int) ((2 ^ i - 1 : Nat) : Int) = ((n % 2 ^ i : Nat) : Int) := by
  have hp : 2 ^ i ≤ 2 ^ 63 := Nat.pow_le_pow_right (by decide) hi
  have hp0 : 0 < 2 ^ i := Nat.two_pow_pos i
  rw [bits_and_u64_nat n (2 ^ i - 1) h (by omega), Nat.and_two_pow_sub_one_eq_mod]
theorem low40 (n : Nat) (h : n < 18446744073709551616) : bits .and .u64 (n : Int) 1099511627775 = ((n % 1099511627776 : Nat) : Int) := by
  have := u64_low 40 n (by decide) h
  simpa using this
theorem low30 (n : Nat) (h : n < 18446744073709551616) : bits .and .u64 (n : Int) 1073741823 = ((n % 1073741824 : Nat) : Int) := by
  have := u64_low 30 n (by decide) h
  simpa using this
theorem low33 (n : Nat) (h : n < 18446744073709551616) : bits .and .u64 (n : Int) 8589934591 = ((n % 8589934592 : Nat) : Int) := by
  have := u64_low 33 n (by decide) h
  simpa using this
theorem low6 (n : Nat) (h : n < 18446744073709551616) : bits .and .u64 (n : Int) 63 = ((n % 64 : Nat) : Int) := by
  have := u64_low 6 n (by decide) h
  simpa using this
theorem i64and3 (n : Int) : bits .and .i64 n 3 = n % 4 := by simpa using i64_mask 2 (by decide) n
end Go.Proofs.YtkkodhjolgcokaaDoor
/-
  AlarmBeats: a timer with a period, told as soon as it is due, is due at each of its times, or, where several are over, at the next one behind; the counts add up.
-/
namespace Go.Proofs.YtkkodhjolgcokaaDoor
open Go.RowKit Go.Lib
set_option maxRecDepth 100000
set_option linter.unusedVariables false

theorem Bo.le {w : World} {lo hi bb n now tu : Nat} {T : Nat → Ti} (H : Bo w lo hi bb n now tu T) : lo ≤ hi := by
  obtain ⟨rb, ro, pb, po, b, g, l, h, wb, M, r, s⟩ := H
  omega
/-- How many times are over: they go on by one period each. -/
theorem beat_more {a s p t : Nat} (hp : 0 < p) (h : a + s * p ≤ t) : s + turnsN (a + s * p) p t = (t - a) / p + 1 ∧ t < a + (s + turnsN (a + s * p) p t) * p ∧ a + s * p + turnsN (a + s * p) p t * p = a + (s + turnsN (a + s * p) p t) * p ∧ a + s * p + turnsN (a + s * p) p t * p ≤ t + p := by
  unfold turnsN
  obtain ⟨d, hd⟩ : ∃ d, t = a + s * p + d := ⟨t - (a + s * p), by omega⟩
  subst hd
  have e1 : a + s * p + d - (a + s * p) = d := by omega
  have e2 : a + s * p + d - a = d + s * p := by omega
  rw [e1, e2, Nat.add_mul_div_right _ _ hp]
  have h1 := Nat.div_add_mod d p
  have h2 := Nat.mod_lt d hp
  have h3 : p * (d / p) = (d / p) * p := Nat.mul_comm _ _
  have h4 : (s + (d / p + 1)) * p = s * p + ((d / p) * p + p) := by rw [Nat.add_mul, Nat.add_mul, Nat.one_mul]
  have h5 : (d / p + 1) * p = (d / p) * p + p := by rw [Nat.add_mul, Nat.one_mul]
  rw [h4, h5]
  generalize (d / p) * p = x at *
  refine ⟨by omega, by omega, by omega, by omega⟩
theorem beat_not {a s p t : Nat} (hp : 0 < p) (hat : a ≤ t) (h : t < a + s * p) (hs : s ≤ (t - a) / p + 1) : s = (t - a) / p + 1 := by
  have h1 : (t - a) / p < s := by rw [Nat.div_lt_iff_lt_mul hp]; omega
  omega

set_option maxRecDepth 100000 in
set_option maxHeartbeats 32000000 in
theorem beats_walk8 (n0 g0 p0 : Nat) (sa : Option Addr) (len cap sb off : Nat) (zs : Nat → Nat) (w : World) (hT : TabAt w) (hn0 : n0 < 18446744073709551616) (hg0 : g0 < 18446744073709551616) (hp0 : p0 < 18446744073709551616)
    (_hm : len ≤ maxLen) (hs : 0 < len → sa = some ⟨sb, off, none⟩ ∧ sb < w.heap.size) (hz : ∀ j, j < len → w.cell? ⟨sb, off + j, none⟩ = some (.int .u64 ((zs j : Nat) : Int)) ∧ zs j < 18446744073709551616) :
    Calls Tryd.prog 3 #[.int .u64 (n0 : Nat), .int .u64 (g0 : Nat), .int .u64 (p0 : Nat), .slice sa len cap] w fun e w' => e = .returned (.bool true) ∧ w.grownBy w' none := by
  have C0 := Lib.hid (alive8 w hT)
  have R0 : Hid (∀ (v : World) (j : Nat), w.grownBy v none → j < len → sa = some ⟨sb, off, none⟩ ∧ v.cell? ⟨sb, off + j, none⟩ = some (.int .u64 ((zs j : Nat) : Int)) ∧ zs j < 18446744073709551616) := Lib.hid fun v j k hj => by
    obtain ⟨h1, h2⟩ := hs (by omega)
    exact ⟨h1, (k.cell_far ⟨sb, off + j, none⟩ h2 (by simp)).trans (hz j hj).1, (hz j hj).2⟩
  clear hs hz
  by_cases hl0 : 40 < len
  · have q : (40 : Int) < (len : Int) := by omega
    go_enter Tryd.func3, Tryd.ntmps3
    go_wp2_with fail
    refine C0.out.mono ?_
    rintro e w1 ⟨rfl, k1⟩
    go_wp2
    go_ret
    exact ⟨rfl, k1⟩
  have ql : ¬ (40 : Int) < (len : Int) := by omega
  have mn := low40 n0 hn0
  have mg := low30 g0 hg0
  have mp := low30 p0 hp0
  have bN : n0 % 1099511627776 < 1099511627776 := Nat.mod_lt _ (by decide)
  have bG : g0 % 1073741824 < 1073741824 := Nat.mod_lt _ (by decide)
  have bP : p0 % 1073741824 < 1073741824 := Nat.mod_lt _ (by decide)
  generalize n0 % 1099511627776 = N at *
  generalize g0 % 1073741824 = G at *
  generalize p0 % 1073741824 = pe at *
  have ewP : IntKind.u64.wrap (1 + (pe : Int)) = 1 + (pe : Int) := by rw [IntKind.wrap_u64]; omega
  have ewG : IntKind.u64.wrap ((N : Int) + (G : Int)) = (N : Int) + (G : Int) := by rw [IntKind.wrap_u64]; omega
  have TT := Lib.hid hT
  clear hn0 hg0 hp0 hT
  go_enter Tryd.func3, Tryd.ntmps3
  go_wp2_with fail
  refine C0.out.mono ?_
  rintro e u0 ⟨rfl, k⟩
  have GG := Lib.hid k
  clear k C0
  have C : Hid (Calls Tryd.prog 8 #[.int .i64 1, .int .u64 (N : Nat)] u0 fun e w' => ∃ bb, e = .returned (.pointer (some ⟨bb, 0, none⟩)) ∧ u0.grownBy w' none ∧ Bo w' u0.heap.size w'.heap.size bb 1 N 0 (two Ti.none Ti.none)) := Lib.hid (by
    have h := book_made 1 N u0 (by decide) (by omega)
    rw [two_none] at h
    exact h)
  go_wp2_with fail
  refine C.out.mono ?_
  rintro e u1 ⟨bb, rfl, k, h⟩
  have hlo : w.heap.size ≤ u0.heap.size := GG.out.size
  have hl0 : Hid (0 < u0.heap.size) := Lib.hid (by have := tab_pos TT.out; omega)
  replace GG := Lib.hid (GG.out.trans k)
  have T := Lib.hid (TT.out.kept GG.out)
  obtain ⟨hi, hhi⟩ : ∃ h, h = u1.heap.size := ⟨_, rfl⟩
  rw [← hhi] at h
  have H := Lib.hid h
  generalize u0.heap.size = lo at *
  clear k h C hhi TT
  have hlh : lo ≤ hi := H.out.le
  have C : Hid (Calls Tryd.prog 9 #[.pointer (some ⟨bb, 0, none⟩)] u1 fun e w' => e = .returned (.tuple #[.int .i64 0, .bool true]) ∧ Only lo hi u1 w' ∧ Bo w' lo hi bb 1 N 0 (two Ti.idle Ti.none)) := Lib.hid (by
    have h := bo_make_some 0 H.out T.out (by decide) rfl (fun q h => absurd h (Nat.not_lt_zero q))
    rw [two_up0] at h
    exact h)
  go_wp2_with fail
  refine C.out.mono ?_
  rintro e u2 ⟨rfl, k, h⟩
  replace H := Lib.hid h
  replace GG := Lib.hid (Only.on GG.out k hlo)
  clear k h C T hl0
  have C : Hid (Calls Tryd.prog 10 #[.pointer (some ⟨bb, 0, none⟩), .int .i64 0, .int .u64 5, .int .u64 ((N : Int) + (G : Int)), .int .u64 (1 + (pe : Int))] u2 fun e w' => e = .returned (.bool true) ∧ Only lo hi u2 w' ∧ Bo w' lo hi bb 1 N 1 (two ⟨true, 1, 5, N + G + 0 * (1 + pe), 1 + pe, 0⟩ Ti.none)) := Lib.hid (by
    have h := bo_arm_in 0 5 (N + G) (1 + pe) H.out rfl (by decide) (by omega) (by omega) (by decide)
    rw [two_up0, Int.natCast_add, Int.natCast_add] at h
    rw [show N + G + 0 * (1 + pe) = N + G by omega]
    exact h)
  go_wp2_with fail
  refine C.out.mono ?_
  rintro e u3 ⟨rfl, k, h⟩
  replace H := Lib.hid h
  replace GG := Lib.hid (Only.on GG.out k hlo)
  clear k h C
  go_wp2_with fail
  go_loopw [12, 13, 49] (fun tv sv it wr => ∃ k t s tu : Nat, k ≤ len ∧ it = .int .i64 k ∧ tv = .int .u64 (t : Nat) ∧ sv = .int .u64 (s : Nat) ∧ (N ≤ t ∧ t ≤ N + k * 8589934592 ∧ tu ≤ k + 1 ∧ (s = 0 ∨ (N + G ≤ t ∧ s = (t - (N + G)) / (1 + pe) + 1))) ∧ Hid (Bo wr lo hi bb 1 t tu (two ⟨true, 1, 5, N + G + s * (1 + pe), 1 + pe, tu - 1⟩ Ti.none)) ∧ Hid (w.grownBy wr none)) (fun _ _ it _ => len - (intOf it).toNat)
  case atStart => exact ⟨0, N, 0, 1, Nat.zero_le _, rfl, rfl, rfl, ⟨Nat.le_refl _, by omega, by decide, Or.inl rfl⟩, H, GG⟩
  case round =>
    clear H GG
    obtain ⟨k, t, s, tu, hk, rfl, rfl, rfl, ⟨hNt, htk, htu, hst⟩, H, GG⟩ := hrel
    by_cases hlt : k < len
    · have qk : (k : Int) < (len : Int) := by omega
      obtain ⟨rfl, ck, zkb⟩ := R0.out wr k GG.out hlt
      have mk1 := low33 (zs k) zkb
      obtain ⟨g, hgk⟩ : ∃ g, zs k % 8589934592 = g := ⟨_, rfl⟩
      have bk : g < 8589934592 := by omega
      rw [hgk] at mk1
      generalize zs k = zk at *
      clear hgk zkb
      have bt : t + g < 4503599627370496 := by
        have : k * 8589934592 ≤ 40 * 8589934592 := Nat.mul_le_mul_right _ (by omega)
        omega
      have hs0 : s ≤ (t + g - (N + G)) / (1 + pe) + 1 := by
        rcases hst with h | ⟨_, h⟩
        · rw [h]; exact Nat.zero_le _
        · rw [h]; exact Nat.add_le_add_right (Nat.div_le_div_right (show t - (N + G) ≤ t + g - (N + G) by omega)) 1
      have ewt : IntKind.u64.wrap ((t : Int) + (g : Int)) = (t : Int) + (g : Int) := by rw [IntKind.wrap_u64]; omega
      have CT : Hid (Calls Tryd.prog 11 #[.pointer (some ⟨bb, 0, none⟩), .int .u64 ((t : Int) + (g : Int))] wr fun e w' => ∃ r cp, e = .returned (.slice (some ⟨r, 0, none⟩) (if N + G + s * (1 + pe) ≤ t + g then 1 else 0) cp) ∧ Only lo hi wr w' ∧ Bo w' lo hi bb 1 (t + g) tu (two (if N + G + s * (1 + pe) ≤ t + g then ⟨true, 2, 5, N + G + s * (1 + pe), 1 + pe, tu - 1⟩ else ⟨true, 1, 5, N + G + s * (1 + pe), 1 + pe, tu - 1⟩) Ti.none)) := Lib.hid (by
        have h := bo_to2 (t + g) H.out (by omega)
        have hn : ¬ Ti.told Ti.none (max t (t + g)) := fun h => absurd h.1 (by decide)
        rw [show max t (t + g) = t + g by omega] at h hn
        rw [if_neg hn, if_neg hn, Int.natCast_add] at h
        refine h.mono ?_
        rintro e w' ⟨R, r, cp, he, hr, hk, hb, hx⟩
        have ht : Ti.told ⟨true, 1, 5, N + G + s * (1 + pe), 1 + pe, tu - 1⟩ (t + g) ↔ N + G + s * (1 + pe) ≤ t + g := ⟨fun h => h.2, fun h => ⟨rfl, h⟩⟩
        simp only [ht, Nat.add_zero] at he hb
        exact ⟨r, cp, he, hk, hb⟩)
      obtain ⟨SM, hSM⟩ : ∃ m, s * (1 + pe) = m := ⟨_, rfl⟩
      by_cases hat : N + G ≤ t + g
      · have qat : (N : Int) + (G : Int) ≤ (t : Int) + (g : Int) := by omega
        have ed1 : IntKind.u64.wrap ((t : Int) + (g : Int) - (N : Int)) = (t : Int) + (g : Int) - (N : Int) := by rw [IntKind.wrap_u64]; omega
        have ed2 : IntKind.u64.wrap ((t : Int) + (g : Int) - (N : Int) - (G : Int)) = (t : Int) + (g : Int) - (N : Int) - (G : Int) := by rw [IntKind.wrap_u64]; omega
        obtain ⟨qd, hqd⟩ : ∃ q, (t + g - (N + G)) / (1 + pe) = q := ⟨_, rfl⟩
        have hqb : qd ≤ t + g - (N + G) := by rw [← hqd]; exact Nat.div_le_self _ _
        have edq : IntKind.u64.wrap (((t : Int) + (g : Int) - (N : Int) - (G : Int)) / (1 + (pe : Int))) = (qd : Int) := by
          have h := quoN (t + g - (N + G)) (1 + pe) (by omega)
          rw [hqd, show ((t + g - (N + G) : Nat) : Int) = (t : Int) + (g : Int) - (N : Int) - (G : Int) by omega, Int.natCast_add] at h
          exact h
        have edp : ((t : Int) + (g : Int) - (N : Int) - (G : Int)) / (1 + (pe : Int)) = (qd : Int) := by
          rw [show (t : Int) + (g : Int) - (N : Int) - (G : Int) = ((t + g - (N + G) : Nat) : Int) by omega, show 1 + (pe : Int) = ((1 + pe : Nat) : Int) by omega, ← Int.natCast_ediv, hqd]
        have eq1 : IntKind.u64.wrap ((qd : Int) + 1) = (qd : Int) + 1 := by rw [IntKind.wrap_u64]; omega
        by_cases htold : N + G + s * (1 + pe) ≤ t + g
        · obtain ⟨b1, b2, b3, b4⟩ := beat_more (a := N + G) (s := s) (p := 1 + pe) (t := t + g) (by omega) htold
          rw [hqd] at b1
          obtain ⟨V, hV⟩ : ∃ v, turnsN (N + G + s * (1 + pe)) (1 + pe) (t + g) = v := ⟨_, rfl⟩
          rw [hV] at b1 b2 b3 b4
          rw [b1] at b2 b3
          obtain ⟨M, hM⟩ : ∃ m, (qd + 1) * (1 + pe) = m := ⟨_, rfl⟩
          rw [hM] at b2 b3
          have hVs : 1 ≤ V := by rw [← hV]; exact Nat.le_add_left 1 _
          have qgt : (s : Int) < (qd : Int) + 1 := by omega
          have ewV : IntKind.u64.wrap ((s : Int) + (V : Int)) = (qd : Int) + 1 := by rw [IntKind.wrap_u64]; omega
          have ewM : IntKind.u64.wrap (((qd : Int) + 1) * (1 + (pe : Int))) = (M : Int) := by
            have e : ((M : Nat) : Int) = ((qd : Int) + 1) * (1 + (pe : Int)) := by rw [← hM]; simp
            rw [← e, IntKind.wrap_u64]; omega
          have ewA : IntKind.u64.wrap ((N : Int) + (G : Int) + (M : Int)) = (N : Int) + (G : Int) + (M : Int) := by rw [IntKind.wrap_u64]; omega
          have qle : ¬ (N : Int) + (G : Int) + (M : Int) ≤ (t : Int) + (g : Int) := by omega
          have HTU := Lib.hid htu
          have HQ := Lib.hid hqd
          have HM := Lib.hid hM
          have HB3 := Lib.hid b3
          have HV := Lib.hid hV
          rw [hSM] at b3
          rw [if_pos htold] at CT
          clear hqd hM hV hqb
          go_wp2_with fail
          refine CT.out.mono ?_
          rintro e v1 ⟨r, cp, rfl, k1, h1⟩
          rw [if_pos htold] at h1
          replace H := Lib.hid h1
          replace GG := Lib.hid (Only.on GG.out k1 hlo)
          clear k1 h1 CT
          have C : Hid (Calls Tryd.prog 12 #[.pointer (some ⟨bb, 0, none⟩), .int .i64 0] v1 fun e w' => e = .returned (.tuple #[.agg #[.int .i64 2, .int .u64 5, .int .u64 ((N : Int) + (G : Int) + (SM : Int)), .int .u64 (1 + (pe : Int))], .bool true]) ∧ v1.grownBy w' none) := Lib.hid (by
            have h := bo_look_in 0 H.out
            rw [two_0] at h
            dsimp only at h
            rw [hSM, Int.natCast_add, Int.natCast_add, Int.natCast_add] at h
            exact h)
          go_wp2_with fail
          refine C.out.mono ?_
          rintro e v2 ⟨rfl, k2⟩
          clear C
          have HZ : Hid (hi ≤ v2.heap.size) := Lib.hid (Nat.le_trans H.out.sz k2.size)
          have k3 := World.grownBy_alloc v2 (.cells #[.int .i64 2, .int .u64 5, .int .u64 ((N : Int) + (G : Int) + (SM : Int)), .int .u64 (1 + (pe : Int))] 33) none
          replace H := Lib.hid ((H.out.grown k2).grown k3)
          replace GG := Lib.hid ((GG.out.trans k2).trans k3)
          clear k2
          have x0 : (v2.alloc (.cells #[.int .i64 2, .int .u64 5, .int .u64 ((N : Int) + (G : Int) + (SM : Int)), .int .u64 (1 + (pe : Int))] 33)).cell? ⟨v2.heap.size, 0, none⟩ = some (.int .i64 2) := World.cell?_alloc_new ..
          have x1 : (v2.alloc (.cells #[.int .i64 2, .int .u64 5, .int .u64 ((N : Int) + (G : Int) + (SM : Int)), .int .u64 (1 + (pe : Int))] 33)).cell? ⟨v2.heap.size, 1, none⟩ = some (.int .u64 5) := World.cell?_alloc_new ..
          have x2 : (v2.alloc (.cells #[.int .i64 2, .int .u64 5, .int .u64 ((N : Int) + (G : Int) + (SM : Int)), .int .u64 (1 + (pe : Int))] 33)).cell? ⟨v2.heap.size, 2, none⟩ = some (.int .u64 ((N : Int) + (G : Int) + (SM : Int))) := World.cell?_alloc_new ..
          have x3 : (v2.alloc (.cells #[.int .i64 2, .int .u64 5, .int .u64 ((N : Int) + (G : Int) + (SM : Int)), .int .u64 (1 + (pe : Int))] 33)).cell? ⟨v2.heap.size, 3, none⟩ = some (.int .u64 (1 + (pe : Int))) := World.cell?_alloc_new ..
          have y : ∀ j, (v2.alloc (.cells #[.int .i64 2, .int .u64 5, .int .u64 ((N : Int) + (G : Int) + (SM : Int)), .int .u64 (1 + (pe : Int))] 33)).frozen? ⟨v2.heap.size, j, none⟩ = false := fun j => by simp
          have hsz : v2.heap.size < (v2.alloc (.cells #[.int .i64 2, .int .u64 5, .int .u64 ((N : Int) + (G : Int) + (SM : Int)), .int .u64 (1 + (pe : Int))] 33)).heap.size := by simp
          clear k3
          have C : Hid (Calls Tryd.prog 13 #[.pointer (some ⟨bb, 0, none⟩), .int .i64 0, .int .u64 ((t : Int) + (g : Int))] (v2.alloc (.cells #[.int .i64 2, .int .u64 5, .int .u64 ((N : Int) + (G : Int) + (SM : Int)), .int .u64 (1 + (pe : Int))] 33)) fun e w' => e = .returned (.int .u64 (V : Nat)) ∧ Only lo hi (v2.alloc (.cells #[.int .i64 2, .int .u64 5, .int .u64 ((N : Int) + (G : Int) + (SM : Int)), .int .u64 (1 + (pe : Int))] 33)) w' ∧ Bo w' lo hi bb 1 (t + g) (tu + 1) (two ⟨true, 1, 5, N + G + M, 1 + pe, tu⟩ Ti.none)) := Lib.hid (by
            have h := bo_sent_in 0 (t + g) H.out (by omega) (by omega)
            have ho : ¬ overT ⟨true, 2, 5, N + G + s * (1 + pe), 1 + pe, tu - 1⟩ (t + g) := by
              unfold overT
              dsimp only
              rw [HV.out, HB3.out]
              omega
            obtain ⟨e1, e2, e3⟩ := sent_more ⟨true, 2, 5, N + G + s * (1 + pe), 1 + pe, tu - 1⟩ (t + g) tu rfl ho
            dsimp only at e1 e2
            rw [HV.out] at e1
            rw [HV.out, HB3.out] at e2
            rw [two_0, e1, e2, e3, two_up0, Int.natCast_add] at h
            exact h)
          go_wp2_with fail
          refine C.out.mono ?_
          rintro e v3 ⟨rfl, k4, h4⟩
          clear C
          replace x0 := (k4.cell' v2.heap.size 0 hsz (Or.inr HZ.out)).trans x0
          replace x1 := (k4.cell' v2.heap.size 1 hsz (Or.inr HZ.out)).trans x1
          replace x2 := (k4.cell' v2.heap.size 2 hsz (Or.inr HZ.out)).trans x2
          replace x3 := (k4.cell' v2.heap.size 3 hsz (Or.inr HZ.out)).trans x3
          replace y : ∀ j, v3.frozen? ⟨v2.heap.size, j, none⟩ = false := fun j => (k4.frozen' v2.heap.size j hsz (Or.inr HZ.out)).trans (y j)
          replace hsz := Nat.lt_of_lt_of_le hsz k4.size
          replace H := Lib.hid h4
          replace GG := Lib.hid (Only.on GG.out k4 hlo)
          clear k4 h4
          have C : Hid (Calls Tryd.prog 12 #[.pointer (some ⟨bb, 0, none⟩), .int .i64 0] v3 fun e w' => e = .returned (.tuple #[.agg #[.int .i64 1, .int .u64 5, .int .u64 ((N : Int) + (G : Int) + (M : Int)), .int .u64 (1 + (pe : Int))], .bool true]) ∧ v3.grownBy w' none) := Lib.hid (by
            have h := bo_look_in 0 H.out
            rw [two_0] at h
            dsimp only at h
            rw [Int.natCast_add, Int.natCast_add, Int.natCast_add] at h
            exact h)
          go_wp2_with fail
          refine C.out.mono ?_
          rintro e v9 ⟨rfl, k9⟩
          clear C
          replace x0 := (k9.cell_far ⟨v2.heap.size, 0, none⟩ hsz (by simp)).trans x0
          replace x1 := (k9.cell_far ⟨v2.heap.size, 1, none⟩ hsz (by simp)).trans x1
          replace x2 := (k9.cell_far ⟨v2.heap.size, 2, none⟩ hsz (by simp)).trans x2
          replace x3 := (k9.cell_far ⟨v2.heap.size, 3, none⟩ hsz (by simp)).trans x3
          have y0 := (k9.frozen_far ⟨v2.heap.size, 0, none⟩ hsz (by simp)).trans (y 0)
          have y1 := (k9.frozen_far ⟨v2.heap.size, 1, none⟩ hsz (by simp)).trans (y 1)
          have y2 := (k9.frozen_far ⟨v2.heap.size, 2, none⟩ hsz (by simp)).trans (y 2)
          have y3 := (k9.frozen_far ⟨v2.heap.size, 3, none⟩ hsz (by simp)).trans (y 3)
          replace H := Lib.hid (H.out.grown k9)
          replace GG := Lib.hid (GG.out.trans k9)
          replace hsz := Nat.lt_of_lt_of_le hsz k9.size
          have KS : Hid (∀ a1 a2 a3 a4 : Value, Only v2.heap.size (v2.heap.size + 1) v9 ((((v9.setCell ⟨v2.heap.size, 0, none⟩ a1).setCell ⟨v2.heap.size, 1, none⟩ a2).setCell ⟨v2.heap.size, 2, none⟩ a3).setCell ⟨v2.heap.size, 3, none⟩ a4)) := Lib.hid fun a1 a2 a3 a4 => ((((Only.set (lo := v2.heap.size) (hi := v2.heap.size + 1) _ ⟨v2.heap.size, 0, none⟩ _ (Nat.le_refl _) (Nat.lt_succ_self _)).trans (Only.set _ ⟨v2.heap.size, 1, none⟩ _ (Nat.le_refl _) (Nat.lt_succ_self _))).trans (Only.set _ ⟨v2.heap.size, 2, none⟩ _ (Nat.le_refl _) (Nat.lt_succ_self _))).trans (Only.set _ ⟨v2.heap.size, 3, none⟩ _ (Nat.le_refl _) (Nat.lt_succ_self _)))
          clear k9 y
          generalize v2.heap.size = xb at *
          go_wp2_with fail
          go_roundw
          case rel => exact ⟨k + 1, t + g, qd + 1, tu + 1, hlt, by go_num, by go_num, by go_num, ⟨by omega, by omega, by omega, Or.inr ⟨hat, by rw [HQ.out]⟩⟩, Lib.hid (by rw [HM.out]; exact H.out.kept (KS.out _ _ _ _) (Or.inl HZ.out)), Lib.hid (Only.on GG.out (KS.out _ _ _ _) (by have := HZ.out; have := hlh; omega))⟩
          case measure => simp [intOf]; omega
        · have hs1 : s = qd + 1 := by
            have h := beat_not (a := N + G) (s := s) (p := 1 + pe) (t := t + g) (by omega) hat (by omega) hs0
            rw [hqd] at h
            exact h
          have hSMb : SM ≤ 1125899906842624 * 4 := by
            have h := Nat.div_add_mod (t + g - (N + G)) (1 + pe)
            rw [hqd] at h
            have h2 : SM = (1 + pe) * qd + (1 + pe) := by rw [← hSM, hs1, Nat.add_mul, Nat.mul_comm qd (1 + pe)]; omega
            rw [h2]
            generalize (1 + pe) * qd = x at *
            omega
          have qeq : (qd : Int) + 1 = (s : Int) := by omega
          have HQ := Lib.hid hqd
          have HS := Lib.hid hs1
          replace eq1 : IntKind.u64.wrap ((qd : Int) + 1) = (s : Int) := by rw [IntKind.wrap_u64]; omega
          have ewM : IntKind.u64.wrap ((s : Int) * (1 + (pe : Int))) = (SM : Int) := by
            have e : ((SM : Nat) : Int) = (s : Int) * (1 + (pe : Int)) := by rw [← hSM]; simp
            rw [← e, IntKind.wrap_u64]; omega
          have ewA : IntKind.u64.wrap ((N : Int) + (G : Int) + (SM : Int)) = (N : Int) + (G : Int) + (SM : Int) := by rw [IntKind.wrap_u64]; omega
          have qle : ¬ (N : Int) + (G : Int) + (SM : Int) ≤ (t : Int) + (g : Int) := by rw [hSM] at htold; omega
          rw [if_neg htold] at CT
          clear hqd hs1 hqb qeq
          go_wp2_with fail
          refine CT.out.mono ?_
          rintro e v1 ⟨r, cp, rfl, k1, h1⟩
          rw [if_neg htold] at h1
          replace H := Lib.hid h1
          replace GG := Lib.hid (Only.on GG.out k1 hlo)
          clear k1 h1 CT
          have C : Hid (Calls Tryd.prog 12 #[.pointer (some ⟨bb, 0, none⟩), .int .i64 0] v1 fun e w' => e = .returned (.tuple #[.agg #[.int .i64 1, .int .u64 5, .int .u64 ((N : Int) + (G : Int) + (SM : Int)), .int .u64 (1 + (pe : Int))], .bool true]) ∧ v1.grownBy w' none) := Lib.hid (by
            have h := bo_look_in 0 H.out
            rw [two_0] at h
            dsimp only at h
            rw [hSM, Int.natCast_add, Int.natCast_add, Int.natCast_add] at h
            exact h)
          go_wp2_with fail
          refine C.out.mono ?_
          rintro e v2 ⟨rfl, k2⟩
          clear C
          have HZ : Hid (hi ≤ v2.heap.size) := Lib.hid (Nat.le_trans H.out.sz k2.size)
          have k3 := World.grownBy_alloc v2 (.cells #[.int .i64 1, .int .u64 5, .int .u64 ((N : Int) + (G : Int) + (SM : Int)), .int .u64 (1 + (pe : Int))] 33) none
          replace H := Lib.hid ((H.out.grown k2).grown k3)
          replace GG := Lib.hid ((GG.out.trans k2).trans k3)
          clear k2
          have x0 : (v2.alloc (.cells #[.int .i64 1, .int .u64 5, .int .u64 ((N : Int) + (G : Int) + (SM : Int)), .int .u64 (1 + (pe : Int))] 33)).cell? ⟨v2.heap.size, 0, none⟩ = some (.int .i64 1) := World.cell?_alloc_new ..
          have x1 : (v2.alloc (.cells #[.int .i64 1, .int .u64 5, .int .u64 ((N : Int) + (G : Int) + (SM : Int)), .int .u64 (1 + (pe : Int))] 33)).cell? ⟨v2.heap.size, 1, none⟩ = some (.int .u64 5) := World.cell?_alloc_new ..
          have x2 : (v2.alloc (.cells #[.int .i64 1, .int .u64 5, .int .u64 ((N : Int) + (G : Int) + (SM : Int)), .int .u64 (1 + (pe : Int))] 33)).cell? ⟨v2.heap.size, 2, none⟩ = some (.int .u64 ((N : Int) + (G : Int) + (SM : Int))) := World.cell?_alloc_new ..
          have x3 : (v2.alloc (.cells #[.int .i64 1, .int .u64 5, .int .u64 ((N : Int) + (G : Int) + (SM : Int)), .int .u64 (1 + (pe : Int))] 33)).cell? ⟨v2.heap.size, 3, none⟩ = some (.int .u64 (1 + (pe : Int))) := World.cell?_alloc_new ..
          have y : ∀ j, (v2.alloc (.cells #[.int .i64 1, .int .u64 5, .int .u64 ((N : Int) + (G : Int) + (SM : Int)), .int .u64 (1 + (pe : Int))] 33)).frozen? ⟨v2.heap.size, j, none⟩ = false := fun j => by simp
          have hsz : v2.heap.size < (v2.alloc (.cells #[.int .i64 1, .int .u64 5, .int .u64 ((N : Int) + (G : Int) + (SM : Int)), .int .u64 (1 + (pe : Int))] 33)).heap.size := by simp
          clear k3
          have C : Hid (Calls Tryd.prog 12 #[.pointer (some ⟨bb, 0, none⟩), .int .i64 0] (v2.alloc (.cells #[.int .i64 1, .int .u64 5, .int .u64 ((N : Int) + (G : Int) + (SM : Int)), .int .u64 (1 + (pe : Int))] 33)) fun e w' => e = .returned (.tuple #[.agg #[.int .i64 1, .int .u64 5, .int .u64 ((N : Int) + (G : Int) + (SM : Int)), .int .u64 (1 + (pe : Int))], .bool true]) ∧ (v2.alloc (.cells #[.int .i64 1, .int .u64 5, .int .u64 ((N : Int) + (G : Int) + (SM : Int)), .int .u64 (1 + (pe : Int))] 33)).grownBy w' none) := Lib.hid (by
            have h := bo_look_in 0 H.out
            rw [two_0] at h
            dsimp only at h
            rw [hSM, Int.natCast_add, Int.natCast_add, Int.natCast_add] at h
            exact h)
          go_wp2_with fail
          refine C.out.mono ?_
          rintro e v9 ⟨rfl, k9⟩
          clear C
          replace x0 := (k9.cell_far ⟨v2.heap.size, 0, none⟩ hsz (by simp)).trans x0
          replace x1 := (k9.cell_far ⟨v2.heap.size, 1, none⟩ hsz (by simp)).trans x1
          replace x2 := (k9.cell_far ⟨v2.heap.size, 2, none⟩ hsz (by simp)).trans x2
          replace x3 := (k9.cell_far ⟨v2.heap.size, 3, none⟩ hsz (by simp)).trans x3
          have y0 := (k9.frozen_far ⟨v2.heap.size, 0, none⟩ hsz (by simp)).trans (y 0)
          have y1 := (k9.frozen_far ⟨v2.heap.size, 1, none⟩ hsz (by simp)).trans (y 1)
          have y2 := (k9.frozen_far ⟨v2.heap.size, 2, none⟩ hsz (by simp)).trans (y 2)
          have y3 := (k9.frozen_far ⟨v2.heap.size, 3, none⟩ hsz (by simp)).trans (y 3)
          replace H := Lib.hid (H.out.grown k9)
          replace GG := Lib.hid (GG.out.trans k9)
          replace hsz := Nat.lt_of_lt_of_le hsz k9.size
          have KS : Hid (∀ a1 a2 a3 a4 : Value, Only v2.heap.size (v2.heap.size + 1) v9 ((((v9.setCell ⟨v2.heap.size, 0, none⟩ a1).setCell ⟨v2.heap.size, 1, none⟩ a2).setCell ⟨v2.heap.size, 2, none⟩ a3).setCell ⟨v2.heap.size, 3, none⟩ a4)) := Lib.hid fun a1 a2 a3 a4 => ((((Only.set (lo := v2.heap.size) (hi := v2.heap.size + 1) _ ⟨v2.heap.size, 0, none⟩ _ (Nat.le_refl _) (Nat.lt_succ_self _)).trans (Only.set _ ⟨v2.heap.size, 1, none⟩ _ (Nat.le_refl _) (Nat.lt_succ_self _))).trans (Only.set _ ⟨v2.heap.size, 2, none⟩ _ (Nat.le_refl _) (Nat.lt_succ_self _))).trans (Only.set _ ⟨v2.heap.size, 3, none⟩ _ (Nat.le_refl _) (Nat.lt_succ_self _)))
          clear k9 y
          generalize v2.heap.size = xb at *
          go_wp2_with fail
          go_roundw
          case rel => exact ⟨k + 1, t + g, s, tu, hlt, by go_num, by go_num, by go_num, ⟨by omega, by omega, by omega, Or.inr ⟨hat, by rw [HQ.out]; exact HS.out⟩⟩, Lib.hid (H.out.kept (KS.out _ _ _ _) (Or.inl HZ.out)), Lib.hid (Only.on GG.out (KS.out _ _ _ _) (by have := HZ.out; have := hlh; omega))⟩
          case measure => simp [intOf]; omega
      · have hs1 : s = 0 := by rcases hst with h | ⟨h, _⟩ <;> omega
        subst hs1
        have qat : ¬ (N : Int) + (G : Int) ≤ (t : Int) + (g : Int) := by omega
        have htold : ¬ N + G + 0 * (1 + pe) ≤ t + g := by omega
        rw [if_neg htold] at CT
        clear hSM hst hs0
        rw [Int.natCast_zero]
        go_wp2_with fail
        refine CT.out.mono ?_
        rintro e v1 ⟨r, cp, rfl, k1, h1⟩
        rw [if_neg htold] at h1
        replace H := Lib.hid h1
        replace GG := Lib.hid (Only.on GG.out k1 hlo)
        clear k1 h1 CT
        have C : Hid (Calls Tryd.prog 12 #[.pointer (some ⟨bb, 0, none⟩), .int .i64 0] v1 fun e w' => e = .returned (.tuple #[.agg #[.int .i64 1, .int .u64 5, .int .u64 ((N : Int) + (G : Int)), .int .u64 (1 + (pe : Int))], .bool true]) ∧ v1.grownBy w' none) := Lib.hid (by
          have h := bo_look_in 0 H.out
          rw [two_0] at h
          dsimp only at h
          rw [show N + G + 0 * (1 + pe) = N + G by omega, Int.natCast_add, Int.natCast_add] at h
          exact h)
        go_wp2_with fail
        refine C.out.mono ?_
        rintro e v2 ⟨rfl, k2⟩
        clear C
        have HZ : Hid (hi ≤ v2.heap.size) := Lib.hid (Nat.le_trans H.out.sz k2.size)
        have k3 := World.grownBy_alloc v2 (.cells #[.int .i64 1, .int .u64 5, .int .u64 ((N : Int) + (G : Int)), .int .u64 (1 + (pe : Int))] 33) none
        replace H := Lib.hid ((H.out.grown k2).grown k3)
        replace GG := Lib.hid ((GG.out.trans k2).trans k3)
        clear k2
        have x0 : (v2.alloc (.cells #[.int .i64 1, .int .u64 5, .int .u64 ((N : Int) + (G : Int)), .int .u64 (1 + (pe : Int))] 33)).cell? ⟨v2.heap.size, 0, none⟩ = some (.int .i64 1) := World.cell?_alloc_new ..
        have x1 : (v2.alloc (.cells #[.int .i64 1, .int .u64 5, .int .u64 ((N : Int) + (G : Int)), .int .u64 (1 + (pe : Int))] 33)).cell? ⟨v2.heap.size, 1, none⟩ = some (.int .u64 5) := World.cell?_alloc_new ..
        have x2 : (v2.alloc (.cells #[.int .i64 1, .int .u64 5, .int .u64 ((N : Int) + (G : Int)), .int .u64 (1 + (pe : Int))] 33)).cell? ⟨v2.heap.size, 2, none⟩ = some (.int .u64 ((N : Int) + (G : Int))) := World.cell?_alloc_new ..
        have x3 : (v2.alloc (.cells #[.int .i64 1, .int .u64 5, .int .u64 ((N : Int) + (G : Int)), .int .u64 (1 + (pe : Int))] 33)).cell? ⟨v2.heap.size, 3, none⟩ = some (.int .u64 (1 + (pe : Int))) := World.cell?_alloc_new ..
        have y : ∀ j, (v2.alloc (.cells #[.int .i64 1, .int .u64 5, .int .u64 ((N : Int) + (G : Int)), .int .u64 (1 + (pe : Int))] 33)).frozen? ⟨v2.heap.size, j, none⟩ = false := fun j => by simp
        have hsz : v2.heap.size < (v2.alloc (.cells #[.int .i64 1, .int .u64 5, .int .u64 ((N : Int) + (G : Int)), .int .u64 (1 + (pe : Int))] 33)).heap.size := by simp
        clear k3
        have C : Hid (Calls Tryd.prog 12 #[.pointer (some ⟨bb, 0, none⟩), .int .i64 0] (v2.alloc (.cells #[.int .i64 1, .int .u64 5, .int .u64 ((N : Int) + (G : Int)), .int .u64 (1 + (pe : Int))] 33)) fun e w' => e = .returned (.tuple #[.agg #[.int .i64 1, .int .u64 5, .int .u64 ((N : Int) + (G : Int)), .int .u64 (1 + (pe : Int))], .bool true]) ∧ (v2.alloc (.cells #[.int .i64 1, .int .u64 5, .int .u64 ((N : Int) + (G : Int)), .int .u64 (1 + (pe : Int))] 33)).grownBy w' none) := Lib.hid (by
          have h := bo_look_in 0 H.out
          rw [two_0] at h
          dsimp only at h
          rw [show N + G + 0 * (1 + pe) = N + G by omega, Int.natCast_add, Int.natCast_add] at h
          exact h)
        go_wp2_with fail
        refine C.out.mono ?_
        rintro e v9 ⟨rfl, k9⟩
        clear C
        replace x0 := (k9.cell_far ⟨v2.heap.size, 0, none⟩ hsz (by simp)).trans x0
        replace x1 := (k9.cell_far ⟨v2.heap.size, 1, none⟩ hsz (by simp)).trans x1
        replace x2 := (k9.cell_far ⟨v2.heap.size, 2, none⟩ hsz (by simp)).trans x2
        replace x3 := (k9.cell_far ⟨v2.heap.size, 3, none⟩ hsz (by simp)).trans x3
        have y0 := (k9.frozen_far ⟨v2.heap.size, 0, none⟩ hsz (by simp)).trans (y 0)
        have y1 := (k9.frozen_far ⟨v2.heap.size, 1, none⟩ hsz (by simp)).trans (y 1)
        have y2 := (k9.frozen_far ⟨v2.heap.size, 2, none⟩ hsz (by simp)).trans (y 2)
        have y3 := (k9.frozen_far ⟨v2.heap.size, 3, none⟩ hsz (by simp)).trans (y 3)
        replace H := Lib.hid (H.out.grown k9)
        replace GG := Lib.hid (GG.out.trans k9)
        replace hsz := Nat.lt_of_lt_of_le hsz k9.size
        have KS : Hid (∀ a1 a2 a3 a4 : Value, Only v2.heap.size (v2.heap.size + 1) v9 ((((v9.setCell ⟨v2.heap.size, 0, none⟩ a1).setCell ⟨v2.heap.size, 1, none⟩ a2).setCell ⟨v2.heap.size, 2, none⟩ a3).setCell ⟨v2.heap.size, 3, none⟩ a4)) := Lib.hid fun a1 a2 a3 a4 => ((((Only.set (lo := v2.heap.size) (hi := v2.heap.size + 1) _ ⟨v2.heap.size, 0, none⟩ _ (Nat.le_refl _) (Nat.lt_succ_self _)).trans (Only.set _ ⟨v2.heap.size, 1, none⟩ _ (Nat.le_refl _) (Nat.lt_succ_self _))).trans (Only.set _ ⟨v2.heap.size, 2, none⟩ _ (Nat.le_refl _) (Nat.lt_succ_self _))).trans (Only.set _ ⟨v2.heap.size, 3, none⟩ _ (Nat.le_refl _) (Nat.lt_succ_self _)))
        clear k9 y
        generalize v2.heap.size = xb at *
        go_wp2_with fail
        go_roundw
        case rel => exact ⟨k + 1, t + g, 0, tu, hlt, by go_num, by go_num, by go_num, ⟨by omega, by omega, by omega, Or.inl rfl⟩, Lib.hid (H.out.kept (KS.out _ _ _ _) (Or.inl HZ.out)), Lib.hid (Only.on GG.out (KS.out _ _ _ _) (by have := HZ.out; have := hlh; omega))⟩
        case measure => simp [intOf]; omega
    · obtain rfl : k = len := by omega
      have q : ¬ (k : Int) < (k : Int) := by omega
      have CA : Hid (Calls Tryd.prog 14 #[.pointer (some ⟨bb, 0, none⟩)] wr fun e w' => e = .returned (.int .i64 1) ∧ wr = w') := Lib.hid (by
        have h := bo_armed H.out
        rw [show setN (onW (two ⟨true, 1, 5, N + G + s * (1 + pe), 1 + pe, tu - 1⟩ Ti.none)) 1 = 1 by simp [setN, sumN, onW, two]] at h
        exact h)
      go_wp2_with fail
      refine (CA.out).mono ?_
      rintro e w' ⟨rfl, rfl⟩
      go_wp2
      go_ret
      exact ⟨rfl, GG.out⟩
end Go.Proofs.YtkkodhjolgcokaaDoor
/-
  A slice of words that came in, as natural numbers with their bounds. (No condition.)
-/
namespace Go.Proofs.YtkkodhjolgcokaaDoor
open Go.ChangeShapes Go.WideShapes Go.ChangeAt Go.RowKit Go.Deep

section
variable {H : Type} {enc : TypeId × Value → H} {P : Program}
theorem open_wordsb {W : World} {t e : TypeId} {base : Nat} {v : Value} {d : DataW H} {ps : List MemPlace} (ht : P.underlying t = some (.slice e)) (he : P.underlying e = some (.int .u64)) (hc : P.cellsOf e = 1)
    (hok : Value.okWide P W .any base t v) (h : DataW.Trod enc P W 0 (fun _ => true) true t v d ps) :
    ∃ (sa : Option Addr) (len cap sb off : Nat) (zs : Nat → Nat), v = .slice sa len cap ∧ len ≤ maxLen ∧ (0 < len → sa = some ⟨sb, off, none⟩ ∧ sb < W.heap.size) ∧ (∀ j, j < len → W.cell? ⟨sb, off + j, none⟩ = some (.int .u64 ((zs j : Nat) : Int)) ∧ zs j < 18446744073709551616) := by
  obtain ⟨sa, len, cap, rfl⟩ := okWide_slice ht hok
  obtain ⟨fuel, hf⟩ := h
  rcases open_ints ht he hc hf with ⟨hcs, _⟩ | ⟨a, len', cap', zs, hcs, _, hl, hm, hz, _, hcell, hwf⟩
  · simp [Value.cells] at hcs
    obtain ⟨rfl, rfl, rfl⟩ := hcs
    exact ⟨none, 0, 0, 0, 0, fun _ => 0, rfl, Nat.zero_le _, fun h => absurd h (by omega), fun j hj => absurd hj (by omega)⟩
  · simp [Value.cells] at hcs
    obtain ⟨rfl, rfl, rfl⟩ := hcs
    simp only [if_true] at hz
    obtain ⟨b, off, spot⟩ := a
    have hsp : 0 < len → spot = none := fun h0 => by simpa [Addr.add] using World.cell?_spot (hcell 0 (by omega))
    refine ⟨_, len, cap, b, off, fun j => (zs.getD j 0).toNat, rfl, Nat.le_trans hl hm, fun h0 => ?_, fun j hj => ?_⟩
    · obtain rfl := hsp h0
      have h1 := hcell 0 (by omega)
      exact ⟨rfl, cell_block h1⟩
    · obtain rfl := hsp (by omega)
      rw [← add_plain]
      have hj2 : j < zs.length := by omega
      have hw := hwf (zs.getD j 0) (by rw [List.getD_eq_getElem?_getD, List.getElem?_eq_getElem hj2]; exact List.getElem_mem hj2)
      have h' : (0 : Int) ≤ zs.getD j 0 ∧ zs.getD j 0 ≤ 18446744073709551615 := by simpa [Lit.wf, IntKind.min, IntKind.max, IntKind.bits, IntKind.signed] using hw
      refine ⟨?_, by show (zs.getD j 0).toNat < _; omega⟩
      have e : (((zs.getD j 0).toNat : Nat) : Int) = zs.getD j 0 := by omega
      show _ = some (Value.int .u64 (((zs.getD j 0).toNat : Nat) : Int))
      rw [e]
      exact hcell j hj2
end
end Go.Proofs.YtkkodhjolgcokaaDoor
