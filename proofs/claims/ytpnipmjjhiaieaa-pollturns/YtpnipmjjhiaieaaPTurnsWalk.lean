/-
  PollTurns: of devices that are ready all the time each is told as often as each other one, but for one time.
-/
import Derived.Test.YtpnipmjjhiaieaaPTurns0
namespace Go.Proofs.Ytpnipmjjhiaieaa
open Go.RowKit Go.Lib BN
set_option maxRecDepth 100000
set_option linter.unusedVariables false
set_option maxRecDepth 100000 in
set_option maxHeartbeats 32000000 in
theorem pturns_walk (devs most turns : Int) (w : World) : Calls Try.prog 4 #[.int .i64 devs, .int .i64 most, .int .i64 turns] w fun e w' => e = .returned (.bool true) ∧ w.grownBy w' none := by
  have C0 := Lib.hid (alive13 w)
  have x1 : bits .and .i64 devs 7 = devs % 8 := by simpa using i64_mask 3 (by decide) devs
  have x2 : bits .and .i64 most 7 = most % 8 := by simpa using i64_mask 3 (by decide) most
  have x3 : bits .and .i64 turns 63 = turns % 64 := by simpa using i64_mask 6 (by decide) turns
  obtain ⟨n, hn⟩ : ∃ n : Nat, 1 + devs % 8 = (n : Int) := ⟨(1 + devs % 8).toNat, by omega⟩
  obtain ⟨m, hm⟩ : ∃ m : Nat, 1 + most % 8 = (m : Int) := ⟨(1 + most % 8).toNat, by omega⟩
  obtain ⟨tn, ht⟩ : ∃ t : Nat, turns % 64 = (t : Int) := ⟨(turns % 64).toNat, by omega⟩
  have hnb : 0 < n ∧ n < 9 := by omega
  have hmb : 0 < m ∧ m < 9 := by omega
  have htb : tn < 64 := by omega
  obtain ⟨mm, hmm⟩ : ∃ mm, min n m = mm := ⟨_, rfl⟩
  have HMM := Lib.hid hmm
  have q1 : min (n : Int) (m : Int) = (mm : Int) := by omega
  have q2 : (if (m : Int) < (n : Int) then (m : Int) else (n : Int)) = (mm : Int) := by split <;> omega
  have q3 : (if (n : Int) < (m : Int) then (n : Int) else (m : Int)) = (mm : Int) := by split <;> omega
  have q4 : (if (n : Int) ≤ (m : Int) then (n : Int) else (m : Int)) = (mm : Int) := by split <;> omega
  have hmk : ∀ W : World, (Instr.makeSlice 43 (.int .i64 (n : Nat)) (.int .i64 (n : Nat))).run Try.prog W = .ok (.slice (some ⟨W.heap.size, 0, none⟩) n n) (W.alloc (.cells (rowV n (fun _ => 0)) 3)) := fun W => by rw [← rowV_made]; exact make_ints n n (by omega) (by omega) W
  clear hmm
  go_enter Try.func4, Try.ntmps4
  go_wp2_with fail
  refine C0.out.mono ?_
  rintro e u0 ⟨rfl, k0⟩
  have K0 := Lib.hid k0
  have CQ := Lib.hid (qu_new 0 (n : Int) (m : Int) 0 n (by decide) (by unfold clamp3; omega) u0)
  clear k0 C0
  go_wp2_with fail
  try rw [hn]
  try rw [hm]
  refine CQ.out.mono ?_
  rintro e u1 ⟨qb, rfl, k1, hq⟩
  have CN := Lib.hid (po_new hq (n : Int) (n : Int) n n (by unfold nP; omega) (by unfold nP; omega))
  have K1 := Lib.hid k1
  clear k1 hq CQ
  go_wp2_with fail
  refine CN.out.mono ?_
  rintro e u2 ⟨pb, rfl, k2, h2⟩
  have H0 : Hid (P1 w u2 (fun _ => False) pb qb n n 0 n m (tS 0)) := Lib.hid (P1.new K0.out K1.out k2 h2)
  clear k2 h2 CN K1 K0
  go_wp2_with fail
  go_loopw [37] (fun it wr => ∃ k : Nat, k ≤ n ∧ it = .int .i64 k ∧ Hid (P1 w wr (fun _ => False) pb qb n n 0 n m (tS k))) (fun it _ => n - (intOf it).toNat)
  case atStart => exact ⟨0, Nat.zero_le _, rfl, H0⟩
  case round =>
    clear H0
    obtain ⟨k, hk, rfl, H⟩ := hrel
    by_cases hlt : k < n
    · have qk : (k : Int) < (n : Int) := by omega
      have qc : IntKind.u64.wrap (k : Int) = (k : Int) := by rw [IntKind.wrap_u64]; omega
      have C := pf_open H.out.1 k hlt
      rw [tS_open] at C
      have CO := Lib.hid C
      clear C
      go_wp2_with fail
      refine CO.out.mono ?_
      rintro e v1 ⟨rfl, h, kk⟩
      have H1 := Lib.hid (H.out.step h kk)
      clear h kk CO H
      have C := pf_watch H1.out.1 k (k : Int) 1 0 hlt
      rw [tO_watch k n] at C
      have CO := Lib.hid C
      clear C
      go_wp2_with fail
      refine CO.out.mono ?_
      rintro e v2 ⟨rfl, h, kk⟩
      have H2 := Lib.hid (H1.out.step h kk)
      clear h kk CO H1
      have C := pf_post H2.out.1 k 1 hlt
      rw [tW_post k n, tS_step k n hlt] at C
      have CO := Lib.hid C
      clear C
      go_wp2_with fail
      refine CO.out.mono ?_
      rintro e v3 ⟨rfl, h, kk⟩
      have H3 := Lib.hid (H2.out.step h kk)
      clear h kk CO H2
      go_wp2
      go_roundw
      case rel => exact ⟨k + 1, hlt, by go_num, H3⟩
      case measure => simp [intOf]; omega
    · obtain rfl : k = n := by omega
      have HS : Hid (sSettle k 0 k m (tS k) = cS k m 0) := Lib.hid (settle_start k m hnb hmb)
      have H1 := Lib.hid (H.out.add (.cells (rowV k (fun _ => 0)) 3))
      have T1 : Hid ((wr.alloc (.cells (rowV k (fun _ => 0)) 3)).heap[wr.heap.size]? = some (.cells (rowV k (fun _ => 0)) 3 (0, 0))) := Lib.hid (heap_alloc_new _ _)
      clear H
      go_wp2_with fail
      generalize hz : wr.heap.size = tb at *
      have H1 : Hid (P1 w (wr.alloc (.cells (rowV k (fun _ => 0)) 3)) (fun j => j = tb) pb qb k k 0 k m (tS k)) := Lib.hid (H1.out.alt fun j hj => Or.inr hj)
      generalize wr.alloc (.cells (rowV k (fun _ => 0)) 3) = wa at *
      clear hz
      go_loopw [62] (fun it wr => ∃ (t q r : Nat) (s : Ps), t ≤ tn ∧ it = .int .i64 t ∧ Hid (P1 w wr (fun j => j = tb) pb qb k k 0 k m s) ∧ Hid (sSettle k 0 k m s = cS k m r) ∧ Hid (wr.heap[tb]? = some (.cells (rowV k (fun j => q + if j < r then 1 else 0)) 3 (0, 0))) ∧ Hid (r < k ∧ q ≤ t)) (fun it _ => tn - (intOf it).toNat)
      case atStart => exact ⟨0, 0, 0, tS k, Nat.zero_le _, rfl, H1, HS, Lib.hid (by simpa using T1.out), Lib.hid ⟨hnb.1, Nat.le_refl _⟩⟩
      case round =>
        clear H1 T1 HS
        obtain ⟨t, q, r, s, htl, rfl, H, HS, HT, HR⟩ := hrel
        have hrk := HR.out.1
        by_cases htt : t < tn
        · have qt : (t : Int) < (tn : Int) := by omega
          have C := pf_settle H.out.1
          rw [HS.out] at C
          have CO := Lib.hid C
          clear C
          go_wp2_with fail
          refine CO.out.mono ?_
          rintro e v1 ⟨rfl, h, kk⟩
          have HT1 := Lib.hid ((H.out.own kk rfl).trans HT.out)
          have H1 := Lib.hid (H.out.step h kk)
          clear h kk CO H HS HT
          have C := pf_qlen H1.out.1
          rw [show (cS k m r).Q.length = mm by rw [← HMM.out]; exact cQ_len k m r] at C
          have CO := Lib.hid C
          clear C
          go_wp2_with fail
          refine CO.out.mono ?_
          rintro e v1' ⟨rfl, rfl⟩
          clear CO
          have C := pf_pop_some H1.out.1 r (cQ k m r).tail (turn_head k hnb.2 m hmb.2 hnb.1 hmb.1 r hrk)
          rw [show thK 0 r = 2 from rfl, show thI 0 r = (r : Int) by unfold thI; simp] at C
          have CO := Lib.hid C
          clear C
          go_wp2_with fail
          all_goals
            refine CO.out.mono ?_
            rintro e v2 ⟨rfl, h, kk⟩
            have HT2 := Lib.hid ((H1.out.own kk rfl).trans HT1.out)
            have H2 := Lib.hid (H1.out.step h kk)
            clear h kk CO H1 HT1
            have ka := World.grownBy_alloc v2 (.cells #[.int .i64 2, .int .i64 (r : Int)] 46) none
            have H3 := Lib.hid (H2.out.add (.cells #[.int .i64 2, .int .i64 (r : Int)] 46))
            have HT3 := Lib.hid ((H2.out.blk ka rfl).trans HT2.out)
            have TH : Hid ((v2.alloc (.cells #[.int .i64 2, .int .i64 (r : Int)] 46)).heap[v2.heap.size]? = some (.cells #[.int .i64 2, .int .i64 (r : Int)] 46 (0, 0))) := Lib.hid (heap_alloc_new _ _)
            have C := pf_tell H3.out.1 r hrk
            rw [tell_c k m r hrk] at C
            have CO := Lib.hid C
            have qr : (r : Int) < (k : Int) := by omega
            clear C ka H2 HT2
            go_wp2_with fail
            generalize hz : v2.heap.size = z at *
            generalize v2.alloc (.cells #[.int .i64 2, .int .i64 (r : Int)] 46) = v3 at *
            clear hz
            refine CO.out.mono ?_
            rintro e v4 ⟨rfl, h, kk⟩
            have HT4 := Lib.hid ((H3.out.own kk (Or.inl rfl)).trans HT3.out)
            have TH4 := Lib.hid ((H3.out.own kk (Or.inr rfl)).trans TH.out)
            have H4 := Lib.hid ((H3.out.step h kk).alt (B' := fun j => j = tb) fun j hj => Or.inl hj)
            have HS4 : Hid (sSettle k 0 k m (sTell (sQ (cS k m r) (cQ k m r).tail) r) = cS k m ((r + 1) % k)) := Lib.hid (settle_next k m r hnb hmb hrk)
            have z1 := cell_blk TH4.out 1
            simp only [List.getElem?_toArray, List.getElem?_cons_zero, List.getElem?_cons_succ] at z1
            have c1 := (cell_blk HT4.out r).trans (rowV_at k _ r hrk)
            have f1 := frozen_blk HT4.out r
            have qw : IntKind.i64.wrap (((q + if r < r then 1 else 0 : Nat) : Int) + 1) = (((q + 1 : Nat)) : Int) := by rw [IntKind.wrap_i64, if_neg (Nat.lt_irrefl r)]; have := HR.out.2; omega
            rw [if_neg (Nat.lt_irrefl r), Nat.add_zero] at c1 qw
            have qb2 : q ≤ 64 := by have := HR.out.2; omega
            have H5 := Lib.hid (H4.out.set (b := tb) rfl r (.int .i64 ((q + 1 : Nat) : Int)))
            have HT5 := Lib.hid (blk_setCell v4 tb r (.int .i64 ((q + 1 : Nat) : Int)) _ _ HT4.out)
            rw [rowV_set] at HT5
            clear h kk CO H3 HT3 TH H4 HT4 TH4
            have eq1 : ((q + 1 : Nat) : Int) = (q : Int) + 1 := by omega
            rw [eq1] at H5 HT5
            go_wp2
            go_roundw
            case rel =>
              by_cases hlast : r + 1 < k
              · refine ⟨t + 1, q, r + 1, _, htt, by go_num, H5, Lib.hid (by rw [HS4.out, Nat.mod_eq_of_lt hlast]), Lib.hid ?_, Lib.hid ⟨hlast, by have := HR.out.2; omega⟩⟩
                rw [HT5.out]
                congr 2
                unfold rowV
                congr 1
                refine List.map_congr_left fun j hj => ?_
                congr 2
                dsimp only
                by_cases e : j = r
                · subst e; rw [if_pos rfl, if_pos (Nat.lt_succ_self _)]
                · rw [if_neg e]
                  by_cases e2 : j < r
                  · rw [if_pos e2, if_pos (by omega)]
                  · rw [if_neg e2, if_neg (by omega)]
              · have hrr : r + 1 = k := by omega
                refine ⟨t + 1, q + 1, 0, _, htt, by go_num, H5, Lib.hid (by rw [HS4.out, hrr, Nat.mod_self]), Lib.hid ?_, Lib.hid ⟨hnb.1, by have := HR.out.2; omega⟩⟩
                rw [HT5.out]
                congr 2
                unfold rowV
                congr 1
                refine List.map_congr_left fun j hj => ?_
                have hjk := List.mem_range.1 hj
                congr 2
                dsimp only
                by_cases e : j = r
                · subst e; rw [if_pos rfl, if_neg (by omega)]
                · rw [if_neg e, if_pos (by omega), if_neg (by omega)]
            case measure => simp [intOf]; omega
        · obtain rfl : t = tn := by omega
          have HRq := HR.out.2
          go_wp2_with fail
          go_loopw [15, 16, 115] (fun l g it wr => ∃ (j : Nat) (lo hi : Int), j ≤ k ∧ it = .int .i64 j ∧ l = .int .i64 lo ∧ g = .int .i64 hi ∧ Hid ((q : Int) ≤ lo ∧ lo ≤ 64 ∧ 0 ≤ hi ∧ hi ≤ q + 1) ∧ Hid (w.grownBy wr none) ∧ Hid (wr.heap[tb]? = some (.cells (rowV k (fun j => q + if j < r then 1 else 0)) 3 (0, 0)))) (fun _ _ it _ => k - (intOf it).toNat)
          case atStart => exact ⟨0, (t : Int), 0, Nat.zero_le _, rfl, rfl, rfl, Lib.hid (by omega), Lib.hid H.out.2.1, HT⟩
          case round =>
            clear H HS HT
            obtain ⟨j, lo, hi, hj, rfl, rfl, rfl, HB, KW, HT⟩ := hrel
            by_cases hjk : j < k
            · have qj : (j : Int) < (k : Int) := by omega
              have c1 := (cell_blk HT.out j).trans (rowV_at k _ j hjk)
              have hv : q ≤ (q + if j < r then 1 else 0) ∧ (q + if j < r then 1 else 0) ≤ q + 1 := by split <;> omega
              generalize (q + if j < r then 1 else 0) = v at *
              have HV := Lib.hid hv
              clear hv
              go_wp2
              all_goals
                go_roundw
                case rel => exact ⟨j + 1, _, _, hjk, by go_num, rfl, rfl, Lib.hid (by have := HB.out; have := HV.out; omega), KW, HT⟩
                case measure => simp [intOf]; omega
            · have hjk' : j = k := by omega
              subst hjk'
              have hb := HB.out
              have qf : decide (hi - lo ≤ 1) = true := by rw [decide_eq_true_iff]; omega
              have qw : IntKind.i64.wrap (hi - lo) = hi - lo := by rw [IntKind.wrap_i64]; omega
              go_wp2
              all_goals
                go_ret
                exact ⟨by simp only [qf, qw] <;> first | rfl | (simp; omega), KW.out⟩
end Go.Proofs.Ytpnipmjjhiaieaa
