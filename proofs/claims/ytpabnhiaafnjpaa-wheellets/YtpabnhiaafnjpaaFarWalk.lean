/-
  WheelFar: an alarm for whichever time is told by the step that comes to it, and by none ahead.
-/
import Derived.Test.YtpabnhiaafnjpaaAlive7
import Derived.Deep.Cut
import Derived.Lib.MinMax
namespace Go.Proofs.Ytpabnhiaafnjpaa
open Go.RowKit Go.Lib
set_option maxRecDepth 100000
set_option linter.unusedVariables false
theorem clamp_len (l : Nat) (h : l ≤ 4096) : clampN (l : Int) = l := by unfold clampN; omega
/-- One alarm, told or not. -/
def oneS (b : Bool) (at_ : Nat) : Nat → Option (Nat × Nat) := fun k => if k = 0 ∧ b = false then some (at_, 0) else none
theorem one_due (b : Bool) (at_ t k : Nat) : dueS (oneS b at_) 1 t k ↔ k = 0 ∧ b = false ∧ at_ ≤ t := by
  unfold dueS oneS
  constructor
  · rintro ⟨h1, v, h2, h3⟩
    obtain rfl : k = 0 := by omega
    cases b with
    | true => simp at h2
    | false =>
      have e : v = (at_, 0) := by simpa using h2.symm
      subst e
      exact ⟨rfl, rfl, h3⟩
  · rintro ⟨rfl, rfl, h⟩
    exact ⟨by omega, (at_, 0), by simp, h⟩
theorem one_off (b : Bool) (at_ t : Nat) (R : List Nat) (hm : ∀ k, k ∈ R ↔ dueS (oneS b at_) 1 t k) : offS (oneS b at_) R = oneS (b || decide (at_ ≤ t)) at_ := by
  funext k
  unfold offS
  by_cases h : k ∈ R
  · rw [if_pos h]
    obtain ⟨rfl, hb, ht⟩ := (one_due b at_ t k).1 ((hm k).1 h)
    simp [oneS, ht]
  · rw [if_neg h]
    have hn : ¬ (k = 0 ∧ b = false ∧ at_ ≤ t) := fun hh => h ((hm k).2 ((one_due b at_ t k).2 hh))
    unfold oneS
    by_cases hk : k = 0
    · cases b with
      | true => simp
      | false =>
        have : ¬ at_ ≤ t := fun ht => hn ⟨hk, rfl, ht⟩
        simp [hk, this]
    · simp [hk]
theorem one_len (b : Bool) (at_ t : Nat) (R : List Nat) (hn : R.Nodup) (hm : ∀ k, k ∈ R ↔ dueS (oneS b at_) 1 t k) : R.length = if b = false ∧ at_ ≤ t then 1 else 0 := by
  by_cases h : b = false ∧ at_ ≤ t
  · rw [if_pos h, list_one hn (a := 0) (fun k => ((hm k).trans (one_due b at_ t k)).trans ⟨fun x => x.1, fun x => ⟨x, h⟩⟩)]
    rfl
  · rw [if_neg h]
    refine List.length_eq_zero_iff.2 (List.eq_nil_iff_forall_not_mem.2 fun k hk => h ?_)
    exact ((one_due b at_ t k).1 ((hm k).1 hk)).2
set_option maxRecDepth 100000 in
set_option maxHeartbeats 16000000 in
theorem far_walk (now at_ : Nat) (sa2 : Option Addr) (len2 cap2 sb2 off2 : Nat) (zs2 : Nat → Nat) (w : World) (hnow : now < 18446744073709551616) (hat_ : at_ < 18446744073709551616)
    (_hm2 : len2 ≤ maxLen) (hs2 : 0 < len2 → sa2 = some ⟨sb2, off2, none⟩ ∧ sb2 < w.heap.size) (hz2 : ∀ j, j < len2 → w.cell? ⟨sb2, off2 + j, none⟩ = some (.int .u64 ((zs2 j : Nat) : Int)) ∧ zs2 j < 18446744073709551616) :
    Calls Try.prog 9 #[.int .u64 (now : Nat), .int .u64 (at_ : Nat), .slice sa2 len2 cap2] w fun e w' => e = .returned (.bool true) ∧ w.grownBy w' none := by
  have C0 := Lib.hid (alive7 w)
  have R0 : Hid (∀ (v : World) (j : Nat), w.grownBy v none → j < len2 → sa2 = some ⟨sb2, off2, none⟩ ∧ v.cell? ⟨sb2, off2 + j, none⟩ = some (.int .u64 ((zs2 j : Nat) : Int)) ∧ zs2 j < 18446744073709551616) := Lib.hid fun v j k hj => by
    obtain ⟨h1, h2⟩ := hs2 (by omega)
    exact ⟨h1, (k.cell_far ⟨sb2, off2 + j, none⟩ h2 (by simp)).trans (hz2 j hj).1, (hz2 j hj).2⟩
  clear hs2 hz2
  by_cases hl0 : 40 < len2
  · have q : (40 : Int) < (len2 : Int) := by omega
    go_enter Try.func9, Try.ntmps9
    go_wp2_with fail
    refine C0.out.mono ?_
    rintro e w1 ⟨rfl, k1⟩
    go_wp2
    go_ret
    exact ⟨rfl, k1⟩
  have q0 : ¬ (40 : Int) < (len2 : Int) := by omega
  have HAT := Lib.hid hat_
  go_enter Try.func9, Try.ntmps9
  go_wp2_with fail
  refine C0.out.mono ?_
  rintro e u1 ⟨rfl, k1⟩
  have G1 := Lib.hid k1
  have CN : Hid (Calls Try.prog 11 #[.int .i64 1, .int .u64 (now : Nat)] u1 fun e w' => ∃ wb, e = .returned (.pointer (some ⟨wb, 0, none⟩)) ∧ u1.grownBy w' none ∧ Wl w' u1.heap.size w'.heap.size wb 1 now (fun _ => none)) := Lib.hid (wl_new 1 now hnow u1)
  clear k1 C0
  go_wp2_with fail
  refine CN.out.mono ?_
  rintro e u2 ⟨wb, rfl, k2, h2⟩
  have CS : Hid (Calls Try.prog 15 #[.pointer (some ⟨wb, 0, none⟩), .int .i64 0, .int .u64 (at_ : Nat), .int .u64 0] u2 fun e w' => e = .returned (.bool true) ∧ Only u1.heap.size u2.heap.size u2 w' ∧ Wl w' u1.heap.size u2.heap.size wb 1 now (upS (fun _ => none) 0 (some (at_, 0)))) := Lib.hid (wl_set h2 0 at_ 0 (by omega) rfl hat_ (by omega))
  have G2 := Lib.hid (G1.out.trans k2)
  have hl1 := Lib.hid G1.out.size
  clear k2 h2 CN G1
  go_wp2_with fail
  refine CS.out.mono ?_
  rintro e u3 ⟨rfl, k3, h3⟩
  have e0 : upS (fun _ => none) 0 (some (at_, 0)) = oneS false at_ := by
    funext k
    unfold upS oneS
    by_cases hk : k = 0 <;> simp [hk]
  rw [e0] at h3
  have HW := Lib.hid h3
  have G3 := Lib.hid (Only.on G2.out k3 hl1.out)
  have HI := Lib.hid k3.size
  generalize u2.heap.size = hi at *
  generalize u1.heap.size = lo at *
  have HL : Hid (w.heap.size ≤ lo) := hl1
  clear k3 h3 CS G2 e0 hl1
  go_wp2_with fail
  go_loopw [8, 9, 32] (fun tv nv it wr => ∃ (j : Nat) (b : Bool) (nw : Nat), j ≤ len2 ∧ it = .int .i64 j ∧ tv = .bool b ∧ nv = .int .u64 (nw : Nat) ∧ nw < 18446744073709551616 ∧ Hid (b = true → at_ ≤ nw) ∧ Hid (Wl wr lo hi wb 1 nw (oneS b at_)) ∧ Hid (w.grownBy wr none) ∧ Hid (hi ≤ wr.heap.size)) (fun _ _ it _ => len2 - (intOf it).toNat)
  case atStart => exact ⟨0, false, now, Nat.zero_le _, rfl, rfl, rfl, hnow, Lib.hid (by intro h; cases h), HW, G3, HI⟩
  case round =>
    clear HW G3 HI
    obtain ⟨j, b, nw, hj, rfl, rfl, rfl, hnw, HB, HW, HG, HI⟩ := hrel
    by_cases hlt : j < len2
    · obtain ⟨rfl, hc, hzb⟩ := R0.out wr j HG.out hlt
      have qj : (j : Int) < (len2 : Int) := by omega
      obtain ⟨s, hs⟩ : ∃ s, zs2 j = s := ⟨_, rfl⟩
      rw [hs] at hc hzb
      clear hs
      obtain ⟨t, ht⟩ : ∃ t, max nw s = t := ⟨_, rfl⟩
      have hm1 : max (nw : Int) (s : Int) = (t : Int) := by omega
      have hm2 : (if (s : Int) > (nw : Int) then (s : Int) else (nw : Int)) = (t : Int) := by split <;> omega
      have htb : t < 18446744073709551616 := by omega
      have CT := wl_to HW.out s hzb HI.out
      rw [ht] at CT
      have HCT := Lib.hid CT
      clear CT ht
      go_wp2_with fail
      refine HCT.out.mono ?_
      rintro e u5 ⟨R, r, cp, rfl, _, k5, h5, hnd, hmem, _⟩
      rw [one_len b at_ t R hnd hmem]
      rw [one_off b at_ t R hmem] at h5
      have H5 := Lib.hid h5
      have G5 := Lib.hid (Only.on HG.out k5 HL.out)
      have HI5 : Hid (hi ≤ u5.heap.size) := Lib.hid (Nat.le_trans HI.out k5.size)
      clear k5 h5 hnd hmem HG HI HW HCT
      have CN := Lib.hid (wl_now H5.out)
      cases b with
      | true =>
        have hat2 := HB.out rfl
        have q1 : (at_ : Int) ≤ (t : Int) := by omega
        have q2 : at_ ≤ t := by omega
        simp only [Bool.true_or] at H5
        have CA : Hid (Calls Try.prog 21 #[.pointer (some ⟨wb, 0, none⟩), .int .i64 0] u5 fun e w' => e = .returned (.tuple #[.int .u64 0, .int .u64 0, .bool false]) ∧ u5 = w') := Lib.hid (wl_at_none H5.out 0 (Or.inr (by simp [oneS])))
        rw [if_neg (by simp)]
        go_wp2_with fail
        refine CN.out.mono ?_
        rintro e w' ⟨rfl, rfl⟩
        go_wp2_with fail
        refine CA.out.mono ?_
        rintro e w' ⟨rfl, rfl⟩
        go_wp2
        go_roundw
        case rel => exact ⟨j + 1, true, t, hlt, by go_num, rfl, rfl, htb, Lib.hid (fun _ => q2), H5, G5, HI5⟩
        case measure => simp [intOf]; omega
      | false =>
        by_cases q2 : at_ ≤ t
        · have q1 : (at_ : Int) ≤ (t : Int) := by omega
          simp only [q2, decide_true, Bool.or_true] at H5
          have CA : Hid (Calls Try.prog 21 #[.pointer (some ⟨wb, 0, none⟩), .int .i64 0] u5 fun e w' => e = .returned (.tuple #[.int .u64 0, .int .u64 0, .bool false]) ∧ u5 = w') := Lib.hid (wl_at_none H5.out 0 (Or.inr (by simp [oneS])))
          rw [if_pos ⟨rfl, q2⟩]
          go_wp2_with fail
          refine CN.out.mono ?_
          rintro e w' ⟨rfl, rfl⟩
          go_wp2_with fail
          refine CA.out.mono ?_
          rintro e w' ⟨rfl, rfl⟩
          go_wp2
          go_roundw
          case rel => exact ⟨j + 1, true, t, hlt, by go_num, rfl, rfl, htb, Lib.hid (fun _ => q2), H5, G5, HI5⟩
          case measure => simp [intOf]; omega
        · have q1 : ¬ (at_ : Int) ≤ (t : Int) := by omega
          simp only [q2, decide_false, Bool.or_false] at H5
          have CA : Hid (Calls Try.prog 21 #[.pointer (some ⟨wb, 0, none⟩), .int .i64 0] u5 fun e w' => e = .returned (.tuple #[.int .u64 (at_ : Nat), .int .u64 0, .bool true]) ∧ u5.grownBy w' none) := Lib.hid (wl_at_some H5.out 0 (at_, 0) (by omega) (by simp [oneS]))
          rw [if_neg (by simp [q2])]
          go_wp2_with fail
          refine CN.out.mono ?_
          rintro e w' ⟨rfl, rfl⟩
          go_wp2_with fail
          refine CA.out.mono ?_
          rintro e u6 ⟨rfl, k6⟩
          have H6 := Lib.hid (H5.out.kept k6)
          have G6 := Lib.hid (G5.out.trans k6)
          have HI6 : Hid (hi ≤ u6.heap.size) := Lib.hid (Nat.le_trans HI5.out k6.size)
          clear k6 H5 G5 HI5 CA CN
          go_wp2
          go_roundw
          case rel => exact ⟨j + 1, false, t, hlt, by go_num, rfl, rfl, htb, Lib.hid (by intro h; cases h), H6, G6, HI6⟩
          case measure => simp [intOf]; omega
    · obtain rfl : j = len2 := by omega
      have qj : ¬ (j : Int) < (j : Int) := by omega
      have CT : Hid (Calls Try.prog 20 #[.pointer (some ⟨wb, 0, none⟩), .int .u64 18446744073709551615] wr _) := Lib.hid (wl_to HW.out 18446744073709551615 (by omega) HI.out)
      go_wp2_with fail
      refine CT.out.mono ?_
      rintro e u5 ⟨R, r, cp, rfl, _, k5, h5, hnd, hmem, _⟩
      have ht : max nw 18446744073709551615 = 18446744073709551615 := by omega
      rw [ht] at h5 hmem
      have hat3 : at_ ≤ 18446744073709551615 := by have := HAT.out; omega
      rw [one_len b at_ _ R hnd hmem]
      rw [one_off b at_ _ R hmem] at h5
      have e5 : oneS (b || decide (at_ ≤ 18446744073709551615)) at_ = fun _ => none := by
        funext k
        simp [oneS, hat3]
      rw [e5] at h5
      have G5 := Lib.hid (Only.on HG.out k5 HL.out)
      have CL : Hid (Calls Try.prog 26 #[.pointer (some ⟨wb, 0, none⟩)] u5 fun e w' => e = .returned (.int .i64 0) ∧ u5 = w') := Lib.hid (wl_len h5)
      clear k5 h5 hnd hmem HG HI HW CT e5 ht
      cases b with
      | true =>
        rw [if_neg (by simp)]
        go_wp2_with fail
        refine CL.out.mono ?_
        rintro e w' ⟨rfl, rfl⟩
        go_wp2
        go_ret
        exact ⟨rfl, G5.out⟩
      | false =>
        rw [if_pos ⟨rfl, hat3⟩]
        go_wp2_with fail
        refine CL.out.mono ?_
        rintro e w' ⟨rfl, rfl⟩
        go_wp2
        go_ret
        exact ⟨rfl, G5.out⟩
end Go.Proofs.Ytpabnhiaafnjpaa
