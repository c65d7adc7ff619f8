/-
  WheelTicks: tick by tick each alarm is told at just its time.
-/
import Derived.Test.YtpabnhiaafnjpaaFarWalk
namespace Go.Proofs.Ytpabnhiaafnjpaa
open Go.RowKit Go.Lib
set_option maxRecDepth 100000
set_option linter.unusedVariables false
theorem u64_low (i : Nat) (n : Nat) (hi : i ≤ 63) (h : n < 18446744073709551616) : bits .and .u64 (n : Int) ((2 ^ i - 1 : Nat) : Int) = ((n % 2 ^ i : Nat) : Int) := by
  have hp : 2 ^ i ≤ 2 ^ 63 := Nat.pow_le_pow_right (by decide) hi
  have hp0 : 0 < 2 ^ i := Nat.two_pow_pos i
  rw [bits_and_u64_nat n (2 ^ i - 1) h (by omega), Nat.and_two_pow_sub_one_eq_mod]
theorem low511 (n : Nat) (h : n < 18446744073709551616) : bits .and .u64 (n : Int) 511 = ((n % 512 : Nat) : Int) := by
  have := u64_low 9 n (by decide) h
  simpa using this
/-- The first m alarms are set. -/
def setF (f : Nat → Nat × Nat) (m : Nat) : Nat → Option (Nat × Nat) := fun k => if k < m then some (f k) else none
theorem setF_step (f : Nat → Nat × Nat) (m : Nat) : upS (setF f m) m (some (f m)) = setF f (m + 1) := by
  funext k
  unfold upS setF
  by_cases h : k = m
  · subst h; simp
  · rw [if_neg h]
    by_cases h2 : k < m
    · rw [if_pos h2, if_pos (by omega)]
    · rw [if_neg h2, if_neg (by omega)]
/-- Those of n alarms are set that are for a time or a later one. -/
def remF (f : Nat → Nat × Nat) (n t : Nat) : Nat → Option (Nat × Nat) := fun k => if k < n ∧ t ≤ (f k).1 then some (f k) else none
theorem remF_all (f : Nat → Nat × Nat) (n t : Nat) (h : ∀ k, k < n → t ≤ (f k).1) : setF f n = remF f n t := by
  funext k
  unfold setF remF
  by_cases hk : k < n
  · rw [if_pos hk, if_pos ⟨hk, h k hk⟩]
  · rw [if_neg hk, if_neg (fun hh => hk hh.1)]
theorem remF_none (f : Nat → Nat × Nat) (n t : Nat) (h : ∀ k, k < n → (f k).1 < t) : remF f n t = fun _ => none := by
  funext k
  unfold remF
  rw [if_neg]
  rintro ⟨h1, h2⟩
  have := h k h1
  omega
theorem remF_due (f : Nat → Nat × Nat) (n a t k : Nat) : dueS (remF f n a) n t k ↔ k < n ∧ a ≤ (f k).1 ∧ (f k).1 ≤ t := by
  unfold dueS remF
  constructor
  · rintro ⟨h1, v, h2, h3⟩
    by_cases h : k < n ∧ a ≤ (f k).1
    · rw [if_pos h] at h2
      have e := Option.some.inj h2
      subst e
      exact ⟨h1, h.2, h3⟩
    · rw [if_neg h] at h2
      cases h2
  · rintro ⟨h1, h2, h3⟩
    exact ⟨h1, f k, by rw [if_pos ⟨h1, h2⟩], h3⟩
theorem remF_off (f : Nat → Nat × Nat) (n a t : Nat) (R : List Nat) (hat : a ≤ t + 1) (hm : ∀ k, k ∈ R ↔ dueS (remF f n a) n t k) : offS (remF f n a) R = remF f n (t + 1) := by
  funext k
  unfold offS
  by_cases h : k ∈ R
  · rw [if_pos h]
    obtain ⟨h1, h2, h3⟩ := (remF_due f n a t k).1 ((hm k).1 h)
    unfold remF
    rw [if_neg (by omega)]
  · rw [if_neg h]
    have hn : ¬ (k < n ∧ a ≤ (f k).1 ∧ (f k).1 ≤ t) := fun hh => h ((hm k).2 ((remF_due f n a t k).2 hh))
    unfold remF
    by_cases h1 : k < n ∧ a ≤ (f k).1
    · rw [if_pos h1, if_pos (by omega)]
    · rw [if_neg h1, if_neg (by omega)]
theorem setN_none (n : Nat) : setN (fun _ => none) n = 0 := by
  unfold setN
  induction n with
  | zero => rfl
  | succ n ih => show sumN _ n + 0 = 0; rw [ih]
set_option maxRecDepth 100000 in
set_option maxHeartbeats 32000000 in
theorem ticks_walk (now : Nat) (sa1 : Option Addr) (len1 cap1 sb1 off1 : Nat) (zs1 : Nat → Nat) (w : World) (hnow : now < 18446744073709551616)
    (_hm1 : len1 ≤ maxLen) (hs1 : 0 < len1 → sa1 = some ⟨sb1, off1, none⟩ ∧ sb1 < w.heap.size) (hz1 : ∀ j, j < len1 → w.cell? ⟨sb1, off1 + j, none⟩ = some (.int .u64 ((zs1 j : Nat) : Int)) ∧ zs1 j < 18446744073709551616) :
    Calls Try.prog 8 #[.int .u64 (now : Nat), .slice sa1 len1 cap1] w fun e w' => e = .returned (.bool true) ∧ w.grownBy w' none := by
  have C0 := Lib.hid (alive7 w)
  have R0 : Hid (∀ (v : World) (j : Nat), w.grownBy v none → j < len1 → sa1 = some ⟨sb1, off1, none⟩ ∧ v.cell? ⟨sb1, off1 + j, none⟩ = some (.int .u64 ((zs1 j : Nat) : Int)) ∧ zs1 j < 18446744073709551616) := Lib.hid fun v j k hj => by
    obtain ⟨h1, h2⟩ := hs1 (by omega)
    exact ⟨h1, (k.cell_far ⟨sb1, off1 + j, none⟩ h2 (by simp)).trans (hz1 j hj).1, (hz1 j hj).2⟩
  clear hs1 hz1
  by_cases hl0 : 20 < len1
  · have q : (20 : Int) < (len1 : Int) := by omega
    go_enter Try.func8, Try.ntmps8
    go_wp2_with fail
    refine C0.out.mono ?_
    rintro e w1 ⟨rfl, k1⟩
    go_wp2
    go_ret
    exact ⟨rfl, k1⟩
  have q0 : ¬ (20 : Int) < (len1 : Int) := by omega
  by_cases hn0 : 4611686018427387904 < now
  · have q : (4611686018427387904 : Int) < (now : Int) := by omega
    go_enter Try.func8, Try.ntmps8
    go_wp2_with fail
    refine C0.out.mono ?_
    rintro e w1 ⟨rfl, k1⟩
    go_wp2
    go_ret
    exact ⟨rfl, k1⟩
  have q1 : ¬ (4611686018427387904 : Int) < (now : Int) := by omega
  obtain ⟨f, hf⟩ : ∃ f : Nat → Nat × Nat, f = fun k => (now + zs1 k % 512, 0) := ⟨_, rfl⟩
  have HF : Hid (∀ k, f k = (now + zs1 k % 512, 0)) := Lib.hid fun k => by rw [hf]
  clear hf
  go_enter Try.func8, Try.ntmps8
  go_wp2_with fail
  refine C0.out.mono ?_
  rintro e u1 ⟨rfl, k1⟩
  have G1 := Lib.hid k1
  have CN := wl_new (len1 : Int) now hnow u1
  rw [clamp_len len1 (by omega)] at CN
  have HCN := Lib.hid CN
  clear k1 C0 CN
  go_wp2_with fail
  refine HCN.out.mono ?_
  rintro e u2 ⟨wb, rfl, k2, h2⟩
  have G2 := Lib.hid (G1.out.trans k2)
  have HL : Hid (w.heap.size ≤ u1.heap.size) := Lib.hid G1.out.size
  have e0 : (fun _ => none) = setF f 0 := by funext k; simp [setF]
  rw [e0] at h2
  have HW := Lib.hid h2
  have HI := Lib.hid (Nat.le_refl u2.heap.size)
  generalize hhi : u2.heap.size = hi at *
  generalize u1.heap.size = lo at *
  replace HI : Hid (hi ≤ u2.heap.size) := Lib.hid (by omega)
  clear k2 h2 HCN G1 e0 hhi
  go_wp2_with fail
  go_loopw [31] (fun it wr => ∃ j : Nat, j ≤ len1 ∧ it = .int .i64 j ∧ Hid (Wl wr lo hi wb len1 now (setF f j)) ∧ Hid (w.grownBy wr none) ∧ Hid (hi ≤ wr.heap.size)) (fun it _ => len1 - (intOf it).toNat)
  case atStart => exact ⟨0, Nat.zero_le _, rfl, HW, G2, HI⟩
  case round =>
    clear HW G2 HI
    obtain ⟨j, hj, rfl, HW, HG, HI⟩ := hrel
    by_cases hlt : j < len1
    · obtain ⟨rfl, hc, hzb⟩ := R0.out wr j HG.out hlt
      have qj : (j : Int) < (len1 : Int) := by omega
      have hmk := low511 (zs1 j) hzb
      obtain ⟨g, hg⟩ : ∃ g, zs1 j % 512 = g := ⟨_, rfl⟩
      have hgb : g < 512 := by omega
      rw [hg] at hmk
      have CS := wl_set HW.out j (now + g) 0 hlt (by simp [setF]) (by omega) (by omega)
      rw [show ((now + g, 0) : Nat × Nat) = f j by rw [HF.out j, hg], setF_step] at CS
      have HCS := Lib.hid CS
      have hcast : ((now + g : Nat) : Int) = (now : Int) + (g : Int) := by omega
      rw [hcast] at HCS
      generalize zs1 j = z at *
      clear CS hcast hg
      go_wp2_with fail
      refine HCS.out.mono ?_
      rintro e u3 ⟨rfl, k3, h3⟩
      have HW3 := Lib.hid h3
      have G3 := Lib.hid (Only.on HG.out k3 HL.out)
      have HI3 : Hid (hi ≤ u3.heap.size) := Lib.hid (Nat.le_trans HI.out k3.size)
      clear k3 h3 HCS HW HG HI hc hmk
      go_wp2
      go_roundw
      case rel => exact ⟨j + 1, hlt, by go_num, HW3, G3, HI3⟩
      case measure => simp [intOf]; omega
    · obtain rfl : j = len1 := by omega
      have qj : ¬ (j : Int) < (j : Int) := by omega
      rw [remF_all f j now (fun k hk => by rw [HF.out k]; exact Nat.le_add_right _ _)] at HW
      clear hlt
      go_wp2_with fail
      go_loopw [44] (fun it wr => ∃ t nw : Nat, t ≤ 512 ∧ it = .int .u64 t ∧ nw ≤ now + t ∧ Hid (Wl wr lo hi wb j nw (remF f j (now + t))) ∧ Hid (w.grownBy wr none) ∧ Hid (hi ≤ wr.heap.size)) (fun it _ => 512 - (intOf it).toNat)
      case atStart => exact ⟨0, now, by omega, rfl, by omega, HW, HG, HI⟩
      case round =>
        clear HW HG HI qj
        obtain ⟨t, nw, ht, rfl, hnw, HW, HG, HI⟩ := hrel
        by_cases hlt : t < 512
        · have qt : (t : Int) < 512 := by omega
          have CT := wl_to HW.out (now + t) (by omega) HI.out
          rw [show max nw (now + t) = now + t by omega, show ((now + t : Nat) : Int) = (now : Int) + (t : Int) by omega] at CT
          have HCT := Lib.hid CT
          clear CT
          go_wp2_with fail
          refine HCT.out.mono ?_
          rintro e u5 ⟨R, r, cp, rfl, hro, k5, h5, hnd, hmem, _⟩
          rw [remF_off f j (now + t) (now + t) R (by omega) hmem] at h5
          have H5 : Hid (Wl u5 lo hi wb j (now + t) (remF f j (now + (t + 1)))) := Lib.hid h5
          have G5 := Lib.hid (Only.on HG.out k5 HL.out)
          have HI5 : Hid (hi ≤ u5.heap.size) := Lib.hid (Nat.le_trans HI.out k5.size)
          have HR := Lib.hid hro
          have HM : Hid (∀ k, k ∈ R → k < j ∧ zs1 k % 512 = t) := Lib.hid fun k hk => by
            obtain ⟨h1, h2, h3⟩ := (remF_due f j (now + t) (now + t) k).1 ((hmem k).1 hk)
            rw [HF.out k] at h2 h3
            exact ⟨h1, by simp at h2 h3; omega⟩
          have hRl : R.length ≤ 4096 := Nat.le_trans (few_of_nodup j R hnd (fun k hk => (HM.out k hk).1)) (by omega)
          clear k5 h5 hnd hmem HG HI HW HCT hro
          go_wp2_with fail
          go_loopw [53] (fun it wr => ∃ i : Nat, i ≤ R.length ∧ it = .int .i64 i ∧ Hid (wr = u5)) (fun it _ => R.length - (intOf it).toNat)
          case atStart => exact ⟨0, Nat.zero_le _, rfl, Lib.hid rfl⟩
          case round =>
            obtain ⟨i, hi', rfl, HE⟩ := hrel
            obtain rfl := HE.out
            by_cases hli : i < R.length
            · have qi : (i : Int) < (R.length : Int) := by omega
              have hc1 := HR.out.cell i hli
              obtain ⟨hk1, hk2⟩ := HM.out R[i] (List.getElem_mem hli)
              obtain ⟨rfl, hc2, hzb⟩ := R0.out wr R[i] G5.out hk1
              have hmk := low511 (zs1 R[i]) hzb
              rw [hk2] at hmk
              generalize zs1 R[i] = z at *
              generalize R[i] = k at *
              have qk : ¬ (j : Int) ≤ (k : Int) := by omega
              have qk2 : (k : Int) < (j : Int) := by omega
              clear HE hk2
              go_wp2
              go_roundw
              case rel => exact ⟨i + 1, hli, by go_num, Lib.hid trivial⟩
              case measure => simp [intOf]; omega
            · obtain rfl : i = R.length := by omega
              have qi : ¬ (R.length : Int) < (R.length : Int) := by omega
              clear HE hli
              go_wp2_with fail
              go_loopw [77] (fun it wr => ∃ i : Nat, i ≤ j ∧ it = .int .i64 i ∧ Hid (Wl wr lo hi wb j (now + t) (remF f j (now + (t + 1)))) ∧ Hid (w.grownBy wr none) ∧ Hid (hi ≤ wr.heap.size)) (fun it _ => j - (intOf it).toNat)
              case atStart => exact ⟨0, Nat.zero_le _, rfl, H5, G5, HI5⟩
              case round =>
                clear H5 G5 HI5 HR HM qi
                obtain ⟨i, hi', rfl, H5, G5, HI5⟩ := hrel
                by_cases hli : i < j
                · obtain ⟨rfl, hc, hzb⟩ := R0.out wr i G5.out hli
                  have qi : (i : Int) < (j : Int) := by omega
                  have hmk := low511 (zs1 i) hzb
                  obtain ⟨g, hg⟩ : ∃ g, zs1 i % 512 = g := ⟨_, rfl⟩
                  rw [hg] at hmk
                  have hfi : f i = (now + g, 0) := by rw [HF.out i, hg]
                  generalize zs1 i = z at *
                  by_cases hgt : t < g
                  · have qg : (t : Int) < (g : Int) := by omega
                    have CA := Lib.hid (wl_at_some H5.out i (now + g, 0) hli (by unfold remF; rw [hfi, if_pos ⟨hli, by omega⟩]))
                    clear hfi hg
                    go_wp2_with fail
                    refine CA.out.mono ?_
                    rintro e u6 ⟨rfl, k6⟩
                    have H6 := Lib.hid (H5.out.kept k6)
                    have G6 := Lib.hid (G5.out.trans k6)
                    have HI6 : Hid (hi ≤ u6.heap.size) := Lib.hid (Nat.le_trans HI5.out k6.size)
                    clear k6 H5 G5 HI5 CA hc
                    go_wp2
                    go_roundw
                    case rel => exact ⟨i + 1, hli, by go_num, H6, G6, HI6⟩
                    case measure => simp [intOf]; omega
                  · have qg : ¬ (t : Int) < (g : Int) := by omega
                    have CA := Lib.hid (wl_at_none H5.out (i : Int) (Or.inr (by unfold remF; rw [Int.toNat_natCast, hfi, if_neg (by simp; omega)])))
                    clear hfi hg
                    go_wp2_with fail
                    refine CA.out.mono ?_
                    rintro e w' ⟨rfl, rfl⟩
                    clear CA hc
                    go_wp2
                    go_roundw
                    case rel => exact ⟨i + 1, hli, by go_num, H5, G5, HI5⟩
                    case measure => simp [intOf]; omega
                · obtain rfl : i = j := by omega
                  have qi : ¬ (i : Int) < (i : Int) := by omega
                  go_wp2
                  go_roundw
                  case rel => exact ⟨t + 1, now + t, hlt, by go_num, by omega, H5, G5, HI5⟩
                  case measure => simp [intOf]; omega
        · obtain rfl : t = 512 := by omega
          rw [remF_none f j (now + 512) (fun k hk => by rw [HF.out k]; show now + _ < _; omega)] at HW
          have CL := wl_len HW.out
          rw [setN_none] at CL
          have HCL : Hid (Calls Try.prog 26 #[.pointer (some ⟨wb, 0, none⟩)] wr fun e w' => e = .returned (.int .i64 0) ∧ wr = w') := Lib.hid CL
          clear CL hlt
          go_wp2_with fail
          refine HCL.out.mono ?_
          rintro e w' ⟨rfl, rfl⟩
          go_wp2
          go_ret
          exact ⟨rfl, HG.out⟩
end Go.Proofs.Ytpabnhiaafnjpaa
