/-
  Contracts of package alarm, over this seat's translation: Sent.
-/
import Derived.Test.YtkkodhjolgcokaaDoorAlarm2
import Derived.Test.YtkkodhjolgcokaaDoorNum
namespace Go.Proofs.YtkkodhjolgcokaaDoor
open Go.RowKit Go.Lib
set_option maxRecDepth 100000

section
variable {w w' : World} {bb rb ro pb po b g lo hi wb n now tu : Nat} {T : Nat → Ti}
theorem bk_sent_no (k : Int) (s : Nat) (H : BkMem w bb rb ro pb po b g lo hi wb n now tu T) (hv : k < 0 ∨ (T k.toNat).st ≠ 2) :
    Calls Tryd.prog 13 #[.pointer (some ⟨bb, 0, none⟩), .int .i64 k, .int .u64 (s : Nat)] w fun e w' => e = .returned (.int .u64 0) ∧ w.grownBy w' none := by
  have h0 := H.m.c0
  by_cases hk : 0 ≤ k ∧ (T k.toNat).is = true
  · obtain ⟨hk0, his⟩ := hk
    obtain ⟨p, rfl⟩ := Int.eq_ofNat_of_zero_le hk0
    have hst : (T p).st ≠ 2 := by
      rcases hv with h | h
      · omega
      · simpa using h
    have his : (T p).is = true := by simpa using his
    have hp : p < n := by
      rcases Nat.lt_or_ge p n with h | h
      · exact h
      · rw [H.ok.far p h] at his; cases his
    have C1 : Hid (Calls Tryd.prog 27 #[.pointer (some ⟨rb, ro, none⟩), .int .i64 p] w fun e w' => e = .returned (.tuple #[.agg #[.int .i64 ((T p).st : Nat), .int .u64 ((T p).h : Nat), .int .u64 ((T p).t : Nat), .int .u64 ((T p).p : Nat)], .bool true]) ∧ w.grownBy w' none) := Lib.hid (SA.at_in p H.m.reg hp his)
    have hz : (((T p).st : Nat) : Int) ≠ 2 := by omega
    clear H his hv hk0 hst
    generalize (T p).st = s1 at *
    generalize (T p).h = s2 at *
    generalize (T p).t = s3 at *
    generalize (T p).p = s4 at *
    go_enter Tryd.func13, Tryd.ntmps13
    go_wp2_with fail
    refine C1.out.mono ?_
    rintro e w1 ⟨rfl, k1⟩
    go_wp2
    go_ret
    exact ⟨rfl, k1.trans (World.grownBy_alloc w1 (.cells #[.int .i64 s1, .int .u64 s2, .int .u64 s3, .int .u64 s4] 33) none)⟩
  · have hv2 : k < 0 ∨ (n : Int) ≤ k ∨ (T k.toNat).is = false := by
      by_cases h : k < 0
      · exact Or.inl h
      · exact Or.inr (Or.inr (by
          cases h2 : (T k.toNat).is with
          | false => rfl
          | true => exact absurd ⟨by omega, h2⟩ hk))
    have C1 : Hid (Calls Tryd.prog 27 #[.pointer (some ⟨rb, ro, none⟩), .int .i64 k] w fun e w' => e = .returned (.tuple #[.agg #[.int .i64 0, .int .u64 0, .int .u64 0, .int .u64 0], .bool false]) ∧ w.grownBy w' none) := Lib.hid (SA.at_no k H.m.reg hv2)
    clear H hv hk hv2
    go_enter Tryd.func13, Tryd.ntmps13
    go_wp2_with fail
    refine C1.out.mono ?_
    rintro e w1 ⟨rfl, k1⟩
    go_wp2
    go_ret
    exact ⟨rfl, k1.trans (World.grownBy_alloc w1 (.cells #[.int .i64 0, .int .u64 0, .int .u64 0, .int .u64 0] 33) none)⟩

theorem BkMem.isd (H : BkMem w bb rb ro pb po b g lo hi wb n now tu T) {p : Nat} (hst : (T p).st ≠ 0) : (T p).is = true ∧ p < n := by
  have his : (T p).is = true := by
    cases h : (T p).is with
    | true => rfl
    | false => have := (H.ok.ok p).off h; rw [this] at hst; exact absurd rfl hst
  refine ⟨his, ?_⟩
  rcases Nat.lt_or_ge p n with h | h
  · exact h
  · rw [H.ok.far p h] at his; cases his

set_option maxHeartbeats 1000000 in
theorem bk_sent_once (p s : Nat) (H : BkMem w bb rb ro pb po b g lo hi wb n now tu T) (hst : (T p).st = 2) (hs : s < 18446744073709551616) (hno : (T p).p = 0 ∨ 18446744073709551616 ≤ (T p).t + turnsN (T p).t (T p).p s * (T p).p) :
    Calls Tryd.prog 13 #[.pointer (some ⟨bb, 0, none⟩), .int .i64 p, .int .u64 (s : Nat)] w fun e w' => e = .returned (.int .u64 1) ∧ BTouch g pb po (n * 4) lo hi bb w w' ∧ BkMem w' bb rb ro pb po b g lo hi wb n now tu (upV T p Ti.idle) := by
  obtain ⟨his, hp⟩ := H.isd (p := p) (by omega)
  have h0 := H.m.c0
  have C1 : Hid (Calls Tryd.prog 27 #[.pointer (some ⟨rb, ro, none⟩), .int .i64 p] w fun e w' => e = .returned (.tuple #[.agg #[.int .i64 ((T p).st : Nat), .int .u64 ((T p).h : Nat), .int .u64 ((T p).t : Nat), .int .u64 ((T p).p : Nat)], .bool true]) ∧ w.grownBy w' none) := Lib.hid (SA.at_in p H.m.reg hp his)
  rw [hst] at C1
  have C2 : Hid (∀ v : World, Calls Tryd.prog 28 #[.int .u64 ((T p).t : Nat), .int .u64 ((T p).p : Nat), .int .u64 (s : Nat)] v fun r w' => r = .returned (.tuple #[.int .u64 0, .int .u64 0, .bool false]) ∧ v = w') := Lib.hid fun v => by
    have bd := (H.ok.ok p).bd
    by_cases h : (T p).p = 0
    · rw [h]; exact next_zero _ _ v
    · exact next_no _ _ _ bd.2.1 bd.2.2 hs (by omega) (hno.resolve_left h) v
  have C3 : Hid (∀ w1, SA.RegMem w1 rb ro pb po b g n (fun k => (T k).is) (fun k => (T k).row) → Calls Tryd.prog 23 #[.pointer (some ⟨rb, ro, none⟩), .int .i64 p, .agg #[.int .i64 0, .int .u64 0, .int .u64 0, .int .u64 0]] w1 fun e w' => e = .returned (.bool true) ∧ Touch g pb po (n * 4) w1 w' ∧ SA.RegMem w' rb ro pb po b g n (fun k => (T k).is) (upV (fun k => (T k).row) p SA.Pr.none)) := Lib.hid fun w1 h => SA.set_in p SA.Pr.none h hp his
  have F : Hid (∀ w', BkP w' bb rb ro pb po b g lo hi wb n now tu (fun k => (T k).is) (upV (fun k => (T k).row) p SA.Pr.none) (onW T) → BkMem w' bb rb ro pb po b g lo hi wb n now tu (upV T p Ti.idle)) := Lib.hid fun w' hh =>
    hh.fit (fit_is his) (fit_row rfl) (fun k => by
      rw [← fit_off (T := T) (p := p) (x := Ti.idle) (by decide), upS_same_none]
      unfold onW
      rw [hst]
      rfl) (H.ok.up hp _ Ti.idle_ok (by decide))
  have HH := Lib.hid H.m
  clear H his hst hno
  generalize (T p).h = s2 at *
  generalize (T p).t = s3 at *
  generalize (T p).p = s4 at *
  go_enter Tryd.func13, Tryd.ntmps13
  go_wp2_with fail
  refine C1.out.mono ?_
  rintro e w1 ⟨rfl, k1⟩
  replace k1 := k1.trans (World.grownBy_alloc w1 (.cells #[.int .i64 2, .int .u64 s2, .int .u64 s3, .int .u64 s4] 33) none)
  have P1 := Lib.hid (HH.out.grown k1)
  have Q1 := Lib.hid (BTouch.of_none (g := g) (po := po) (m := n * 4) (lo := lo) (hi := hi) (bb := bb) k1 HH.out.reg.l.2)
  clear k1 h0 HH
  have h0 := P1.out.c0
  go_wp2_with fail
  refine (C2.out _).mono ?_
  rintro e w' ⟨rfl, rfl⟩
  go_wp2_with fail
  refine (C3.out _ P1.out.reg).mono ?_
  rintro e w3 ⟨rfl, t3, r3⟩
  have P3 := Lib.hid (P1.out.touch t3 r3)
  have Q3 := Lib.hid (Q1.out.trans P3.out.2)
  clear t3 r3 h0
  go_wp2
  go_ret
  exact ⟨rfl, Q3.out, F.out _ P3.out.1⟩

set_option maxHeartbeats 1000000 in
theorem bk_sent_again (p s : Nat) (H : BkMem w bb rb ro pb po b g lo hi wb n now tu T) (hst : (T p).st = 2) (hs : s < 18446744073709551616) (hpe : 0 < (T p).p) (hno : (T p).t + turnsN (T p).t (T p).p s * (T p).p < 18446744073709551616) (htu : tu + 1 < 18446744073709551616) :
    Calls Tryd.prog 13 #[.pointer (some ⟨bb, 0, none⟩), .int .i64 p, .int .u64 (s : Nat)] w fun e w' => e = .returned (.int .u64 (turnsN (T p).t (T p).p s : Nat)) ∧ BTouch g pb po (n * 4) lo hi bb w w' ∧ BkMem w' bb rb ro pb po b g lo hi wb n now (tu + 1) (upV T p ⟨true, 1, (T p).h, (T p).t + turnsN (T p).t (T p).p s * (T p).p, (T p).p, tu⟩) := by
  obtain ⟨his, hp⟩ := H.isd (p := p) (by omega)
  have h0 := H.m.c0
  have bd := (H.ok.ok p).bd
  have C1 : Hid (Calls Tryd.prog 27 #[.pointer (some ⟨rb, ro, none⟩), .int .i64 p] w fun e w' => e = .returned (.tuple #[.agg #[.int .i64 ((T p).st : Nat), .int .u64 ((T p).h : Nat), .int .u64 ((T p).t : Nat), .int .u64 ((T p).p : Nat)], .bool true]) ∧ w.grownBy w' none) := Lib.hid (SA.at_in p H.m.reg hp his)
  rw [hst] at C1
  have C2 : Hid (∀ v : World, Calls Tryd.prog 28 #[.int .u64 ((T p).t : Nat), .int .u64 ((T p).p : Nat), .int .u64 (s : Nat)] v fun r w' => r = .returned (.tuple #[.int .u64 (((T p).t + turnsN (T p).t (T p).p s * (T p).p : Nat) : Int), .int .u64 (turnsN (T p).t (T p).p s : Nat), .bool true]) ∧ v = w') := Lib.hid fun v => next_ok _ _ _ bd.2.1 bd.2.2 hs hpe hno v
  have C3 : Hid (∀ w1, BkMem w1 bb rb ro pb po b g lo hi wb n now tu T → Calls Tryd.prog 10 #[.pointer (some ⟨bb, 0, none⟩), .int .i64 p, .int .u64 ((T p).h : Nat), .int .u64 (((T p).t + turnsN (T p).t (T p).p s * (T p).p : Nat) : Int), .int .u64 ((T p).p : Nat)] w1 fun e w' => e = .returned (.bool true) ∧ BTouch g pb po (n * 4) lo hi bb w1 w' ∧ BkMem w' bb rb ro pb po b g lo hi wb n now (tu + 1) (upV T p ⟨true, 1, (T p).h, (T p).t + turnsN (T p).t (T p).p s * (T p).p, (T p).p, tu⟩)) := Lib.hid fun w1 h => bk_arm_in p _ _ _ h hp his bd.1 hno bd.2.2 htu
  have HH := Lib.hid H
  clear H his hst hno bd
  generalize hA : (T p).t + turnsN (T p).t (T p).p s * (T p).p = A at *
  generalize turnsN (T p).t (T p).p s = tn at *
  generalize (T p).h = s2 at *
  generalize (T p).t = s3 at *
  generalize (T p).p = s4 at *
  clear hA
  go_enter Tryd.func13, Tryd.ntmps13
  go_wp2_with fail
  refine C1.out.mono ?_
  rintro e w1 ⟨rfl, k1⟩
  replace k1 := k1.trans (World.grownBy_alloc w1 (.cells #[.int .i64 2, .int .u64 s2, .int .u64 s3, .int .u64 s4] 33) none)
  have P1 := Lib.hid (HH.out.grown k1)
  have Q1 := Lib.hid (BTouch.of_none (g := g) (po := po) (m := n * 4) (lo := lo) (hi := hi) (bb := bb) k1 HH.out.m.reg.l.2)
  clear k1 h0 HH
  go_wp2_with fail
  refine (C2.out _).mono ?_
  rintro e w' ⟨rfl, rfl⟩
  go_wp2_with fail
  refine (C3.out _ P1.out).mono ?_
  rintro e w3 ⟨rfl, t3, r3⟩
  have Q3 := Lib.hid (Q1.out.trans t3)
  have P3 := Lib.hid r3
  clear t3 r3
  go_wp2
  go_ret
  exact ⟨rfl, Q3.out, P3.out⟩
end
end Go.Proofs.YtkkodhjolgcokaaDoor
