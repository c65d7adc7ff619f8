/-
  The walk of the statement BitsPlays: of each row of steps every answer is as the document says.
-/
import Derived.Test.YtbpmfldegfngaaaDoorRef2
import Derived.Test.YtbpmfldegfngaaaDoorWalksWalk
import Derived.Deep.DeepCutAuto
import Derived.Deep.CutBlock
namespace Go.Proofs.YtbpmfldegfngaaaDoor
open Go.RowKit Go.Lib

/-- Whether a number is in a set of n. -/
def hasV (S : Nat → Bool) (n : Nat) (kk : Int) : Bool := decide (0 ≤ kk) && decide (kk < n) && S kk.toNat
theorem hasV_in (S : Nat → Bool) (n k : Nat) (h : k < n) : hasV S n (k : Int) = S k := by simp [hasV, h]
theorem hasV_out (S : Nat → Bool) (n : Nat) (kk : Int) (h : kk < 0 ∨ (n : Int) ≤ kk) : hasV S n kk = false := by
  unfold hasV
  rcases h with h | h
  · simp [show ¬ 0 ≤ kk by omega]
  · simp [show ¬ kk < n by omega]
theorem has_v (b g n : Nat) (kk : Int) (S : Nat → Bool) (w : World) (h : SetAt w b g n S) :
    Calls Tryd.prog 18 #[.pointer (some ⟨b, 0, none⟩), .int .i64 kk] w fun e w' => e = .returned (.bool (hasV S n kk)) ∧ w.grownBy w' none := by
  by_cases hk : kk < 0 ∨ (n : Int) ≤ kk
  · rw [hasV_out S n kk hk]
    exact (has_out b g n kk S w h hk).mono fun e w' ⟨he, m, hm⟩ => ⟨he, hm ▸ grow_draw w _ m⟩
  · obtain ⟨k, rfl⟩ := Int.eq_ofNat_of_zero_le (show 0 ≤ kk by omega)
    rw [hasV_in S n k (by omega)]
    exact (has_in b g n k S w h (by omega)).mono fun e w' ⟨he, m, hm⟩ => ⟨he, hm ▸ grow_draw w _ m⟩
theorem rhas_v (B r cp n : Nat) (kk : Int) (S : Nat → Bool) (w : World) (h : RowAt w B r cp n S) :
    Calls Tryd.prog 11 #[.slice (some ⟨r, 0, none⟩) n cp, .int .i64 kk] w fun e w' => e = .returned (.bool (hasV S n kk)) ∧ w = w' := by
  by_cases hk : kk < 0 ∨ (n : Int) ≤ kk
  · rw [hasV_out S n kk hk]
    exact rhas_out r cp n kk w hk
  · obtain ⟨k, rfl⟩ := Int.eq_ofNat_of_zero_le (show 0 ≤ kk by omega)
    rw [hasV_in S n k (by omega)]
    exact rhas_in B r cp n k S w h (by omega)

/-- A number that isn't in can't be taken out. -/
theorem drop_no (b g n : Nat) (kk : Int) (S : Nat → Bool) (w : World) (h : SetAt w b g n S) (hk : kk < 0 ∨ (n : Int) ≤ kk ∨ S kk.toNat = false) :
    Calls Tryd.prog 14 #[.pointer (some ⟨b, 0, none⟩), .int .i64 kk] w fun e w' => e = .returned (.bool false) ∧ w.grownBy w' (some g) ∧ SetAt w' b g n S := by
  by_cases h2 : kk < 0 ∨ (n : Int) ≤ kk
  · exact (drop_out b g n kk S w h h2).mono fun e w' ⟨he, m, hm⟩ => by subst hm; exact ⟨he, grow_draw w _ m, h.drewN m⟩
  · have h3 : S kk.toNat = false := by
      rcases hk with hk | hk | hk
      · omega
      · omega
      · exact hk
    obtain ⟨k, rfl⟩ := Int.eq_ofNat_of_zero_le (show 0 ≤ kk by omega)
    exact not_s b g n k S w h (by omega) h3

set_option maxRecDepth 100000 in
set_option maxHeartbeats 8000000 in
theorem plays_walk (size : Int) (sa : Option Addr) (len cap sb off : Nat) (zs : Nat → Int × Int) (ask : Int) (w : World) (hT : TabAt w)
    (_hm : len ≤ maxLen) (hsa : 0 < len → sa = some ⟨sb, off, none⟩ ∧ sb < w.heap.size)
    (hz : ∀ j, j < len → w.cell? ⟨sb, off + j * 2, none⟩ = some (.int .i64 (zs j).1) ∧ w.cell? ⟨sb, off + j * 2 + 1, none⟩ = some (.int .i64 (zs j).2)) :
    Calls Tryd.prog 3 #[.int .i64 size, .slice sa len cap, .int .i64 ask] w fun e w' => e = .returned (.bool true) ∧ w.grownBy w' none := by
  have HSA := Lib.hid hsa
  have HZ := Lib.hid hz
  clear hsa hz _hm
  by_cases hl : 60 < len
  · go_enter Tryd.func3, Tryd.ntmps3
    go_wp2_with fail
    refine (alive2 _ hT).mono ?_
    rintro e w0 ⟨rfl, hG0⟩
    go_wp2
    go_ret
    exact ⟨rfl, hG0⟩
  · obtain ⟨n, hn⟩ : ∃ n, clampN size = n := ⟨_, rfl⟩
    have HN := Lib.hid hn
    have hn4 : n ≤ 4096 := by rw [← hn]; unfold clampN; omega
    clear hn
    go_enter Tryd.func3, Tryd.ntmps3
    go_wp2_with fail
    refine (alive2 _ hT).mono ?_
    rintro e w0 ⟨rfl, hG0⟩
    go_wp2_with fail
    refine (new_made size n HN.out _).mono ?_
    rintro e w1 ⟨b, g, rfl, hb, hg, hk1, hs1⟩
    have hG1 := grow_to hG0 hk1
    have hgW : w.heap.size ≤ g := Nat.le_trans hG0.size hg
    have HT := Lib.hid hT
    go_wp2_with fail
    refine (rnew size n w1.heap.size HN.out _ (Nat.le_refl _)).mono ?_
    rintro e w2 ⟨r0, cp0, rfl, hk2, hr0⟩
    have hs2 := hs1.kept hk2 (by simp) (by simp)
    have hG2 := grow_to hG1 hk2
    have hbB : b < w1.heap.size := hs1.hb
    have hgB : g < w1.heap.size := hs1.hg
    have hBW : w.heap.size ≤ w1.heap.size := hG1.size
    have hB2 : w1.heap.size ≤ w2.heap.size := hk2.size
    clear hG0 hk1 hb hg hT hs1 hG1 hk2 HN
    generalize w1.heap.size = B at *
    go_wp2
    go_loopw [8, 34] (fun xv it wr => ∃ (j : Nat) (S : Nat → Bool) (r cp : Nat), j ≤ len ∧ it = .int .i64 j ∧ xv = .slice (some ⟨r, 0, none⟩) n cp ∧ SetAt wr b g n S ∧ RowAt wr B r cp n S ∧ w.grownBy wr none ∧ B ≤ wr.heap.size) (fun _ it _ => len - (intOf it).toNat)
    case atStart => exact ⟨0, _, r0, cp0, Nat.zero_le _, rfl, rfl, hs2, hr0, hG2, hB2⟩
    case round =>
      obtain ⟨j, S, r, cp, hj, rfl, rfl, hs, hr, hG, hBr⟩ := hrel
      clear hs2 hr0 hG2 hB2
      by_cases hlt : j < len
      · obtain ⟨rfl, hsb⟩ := HSA.out (by omega)
        have hc0 : wr.cell? ⟨sb, off + j * 2, none⟩ = some (.int .i64 (zs j).1) := (hG.cell_far ⟨sb, off + j * 2, none⟩ hsb (by simp)).trans (HZ.out j hlt).1
        have hc1 : wr.cell? ⟨sb, off + j * 2 + 1, none⟩ = some (.int .i64 (zs j).2) := (hG.cell_far ⟨sb, off + j * 2 + 1, none⟩ hsb (by simp)).trans (HZ.out j hlt).2
        obtain ⟨kind, hkd⟩ : ∃ kind, kind = (zs j).1 := ⟨_, rfl⟩
        obtain ⟨K, hK⟩ : ∃ K, K = (zs j).2 := ⟨_, rfl⟩
        rw [← hkd] at hc0
        rw [← hK] at hc1
        clear hkd hK
        have k3 := World.grownBy_alloc wr (.cells #[.int .i64 kind, .int .i64 K] 29) none
        have ho0 : (wr.alloc (.cells #[.int .i64 kind, .int .i64 K] 29)).cell? ⟨wr.heap.size, 0, none⟩ = some (.int .i64 kind) := by simp
        have ho1 : (wr.alloc (.cells #[.int .i64 kind, .int .i64 K] 29)).cell? ⟨wr.heap.size, 1, none⟩ = some (.int .i64 K) := by simp
        have hob : wr.heap.size < (wr.alloc (.cells #[.int .i64 kind, .int .i64 K] 29)).heap.size := by simp
        have hs3 := hs.kept k3 (by simp) (by simp)
        have hr3 := hr.kept k3 (by simp)
        have hG3 := grow_to hG k3
        have hB3 : B ≤ (wr.alloc (.cells #[.int .i64 kind, .int .i64 K] 29)).heap.size := Nat.le_trans hBr k3.size
        clear hs hr hG k3
        obtain ⟨hv, hhv⟩ : ∃ hv, hv = hasV S n K := ⟨_, rfl⟩
        have chas := rhas_v B r cp n K S _ hr3
        rw [← hhv] at chas
        have HV := Lib.hid hhv
        have CH := Lib.hid chas
        clear hhv chas
        go_wp2_with fail
        refine CH.out.mono ?_
        rintro e w' ⟨rfl, rfl⟩
        clear CH
        go_upto_block 2 with fail
        generalize wr.alloc (.cells #[.int .i64 kind, .int .i64 K] 29) = wo at *
        generalize wr.heap.size = ob at *
        go_cut [8] (fun xv wc => ∃ (S' : Nat → Bool) (r' cp' : Nat), xv = .slice (some ⟨r', 0, none⟩) n cp' ∧ SetAt wc b g n S' ∧ RowAt wc B r' cp' n S' ∧ w.grownBy wc none ∧ B ≤ wc.heap.size ∧ wc.cell? ⟨ob, 1, none⟩ = some (.int .i64 K) ∧ ob < wc.heap.size)
        case first =>
          by_cases hneg : K < 0
          · have hvv := hasV_out S n K (Or.inl hneg)
            have HP := Lib.hid (put_no b g n K S wo hs3 (Or.inl hneg))
            have HD := Lib.hid (drop_no b g n K S wo hs3 (Or.inl hneg))
            have ev : hv = false := HV.out.trans hvv
            subst ev
            clear hvv
            by_cases hk0 : kind = 0
            · subst hk0
              go_wp2_with fail
              refine (HP.out).mono ?_
              rintro e w5 ⟨rfl, k5, hs5⟩
              have hr5 := hr3.kept k5 (fun h => by cases h; have := hr3.lt; omega)
              have hG5 := grow_on hG3 k5 hgW
              have hB5 : B ≤ w5.heap.size := Nat.le_trans hB3 k5.size
              have ho5 := (k5.cell_far ⟨ob, 1, none⟩ hob (show (some ob : Option Nat) ≠ some g from fun h => by cases h; omega)).trans ho1
              have hob5 : ob < w5.heap.size := Nat.lt_of_lt_of_le hob k5.size
              clear hs3 hr3 hG3 hB3 ho0 k5
              go_wp2
              go_meet
              case rel => exact ⟨_, _, _, rfl, hs5, hr5, hG5, hB5, ho5, hob5⟩
            · by_cases hk1 : kind = 1
              · subst hk1
                go_wp2_with fail
                refine (HD.out).mono ?_
                rintro e w5 ⟨rfl, k5, hs5⟩
                have hr5 := hr3.kept k5 (fun h => by cases h; have := hr3.lt; omega)
                have hG5 := grow_on hG3 k5 hgW
                have hB5 : B ≤ w5.heap.size := Nat.le_trans hB3 k5.size
                have ho5 := (k5.cell_far ⟨ob, 1, none⟩ hob (show (some ob : Option Nat) ≠ some g from fun h => by cases h; omega)).trans ho1
                have hob5 : ob < w5.heap.size := Nat.lt_of_lt_of_le hob k5.size
                clear hs3 hr3 hG3 hB3 ho0 k5
                go_wp2
                go_meet
                case rel => exact ⟨_, _, _, rfl, hs5, hr5, hG5, hB5, ho5, hob5⟩
              · have e0 : (kind == 0) = false := by rw [beq_eq_false_iff_ne]; exact hk0
                have e1 : (kind == 1) = false := by rw [beq_eq_false_iff_ne]; exact hk1
                go_wp2
                go_meet
                case rel => exact ⟨_, _, _, rfl, hs3, hr3, hG3, hB3, ho1, hob⟩
          · have hpos : 0 ≤ K := by omega
            by_cases hbig : (n : Int) ≤ K
            · have hvv := hasV_out S n K (Or.inr hbig)
              have HP := Lib.hid (put_no b g n K S wo hs3 (Or.inr (Or.inl hbig)))
              have HD := Lib.hid (drop_no b g n K S wo hs3 (Or.inr (Or.inl hbig)))
              have ev : hv = false := HV.out.trans hvv
              subst ev
              clear hvv
              by_cases hk0 : kind = 0
              · subst hk0
                go_wp2_with fail
                refine (HP.out).mono ?_
                rintro e w5 ⟨rfl, k5, hs5⟩
                have hr5 := hr3.kept k5 (fun h => by cases h; have := hr3.lt; omega)
                have hG5 := grow_on hG3 k5 hgW
                have hB5 : B ≤ w5.heap.size := Nat.le_trans hB3 k5.size
                have ho5 := (k5.cell_far ⟨ob, 1, none⟩ hob (show (some ob : Option Nat) ≠ some g from fun h => by cases h; omega)).trans ho1
                have hob5 : ob < w5.heap.size := Nat.lt_of_lt_of_le hob k5.size
                clear hs3 hr3 hG3 hB3 ho0 k5
                go_wp2
                go_meet
                case rel => exact ⟨_, _, _, rfl, hs5, hr5, hG5, hB5, ho5, hob5⟩
              · by_cases hk1 : kind = 1
                · subst hk1
                  go_wp2_with fail
                  refine (HD.out).mono ?_
                  rintro e w5 ⟨rfl, k5, hs5⟩
                  have hr5 := hr3.kept k5 (fun h => by cases h; have := hr3.lt; omega)
                  have hG5 := grow_on hG3 k5 hgW
                  have hB5 : B ≤ w5.heap.size := Nat.le_trans hB3 k5.size
                  have ho5 := (k5.cell_far ⟨ob, 1, none⟩ hob (show (some ob : Option Nat) ≠ some g from fun h => by cases h; omega)).trans ho1
                  have hob5 : ob < w5.heap.size := Nat.lt_of_lt_of_le hob k5.size
                  clear hs3 hr3 hG3 hB3 ho0 k5
                  go_wp2
                  go_meet
                  case rel => exact ⟨_, _, _, rfl, hs5, hr5, hG5, hB5, ho5, hob5⟩
                · have e0 : (kind == 0) = false := by rw [beq_eq_false_iff_ne]; exact hk0
                  have e1 : (kind == 1) = false := by rw [beq_eq_false_iff_ne]; exact hk1
                  go_wp2
                  go_meet
                  case rel => exact ⟨_, _, _, rfl, hs3, hr3, hG3, hB3, ho1, hob⟩
            · obtain ⟨k, rfl⟩ := Int.eq_ofNat_of_zero_le hpos
              have hk : k < n := by omega
              have hvv := hasV_in S n k hk
              clear hneg hpos hbig
              cases hS : S k
              · have ev : hv = false := (HV.out.trans hvv).trans hS
                subst ev
                have HS := Lib.hid hS
                clear hS hvv
                by_cases hk0 : kind = 0
                · subst hk0
                  go_wp2_with fail
                  refine (put_in b g n k S _ hs3 hk HS.out).mono ?_
                  rintro e w5 ⟨rfl, k5, hs5⟩
                  have hr5 := hr3.kept k5 (fun h => by cases h; have := hr3.lt; omega)
                  have hG5 := grow_on hG3 k5 hgW
                  have hB5 : B ≤ w5.heap.size := Nat.le_trans hB3 k5.size
                  have ho5 := (k5.cell_far ⟨ob, 1, none⟩ hob (show (some ob : Option Nat) ≠ some g from fun h => by cases h; omega)).trans ho1
                  have hob5 : ob < w5.heap.size := Nat.lt_of_lt_of_le hob k5.size
                  clear hs3 hr3 hG3 hB3 ho0 k5
                  go_wp2_with fail
                  refine (rset B r cp n k true S _ hr5 hB5 hn4 hk).mono ?_
                  rintro e w6 ⟨r6, cp6, rfl, k6, hr6⟩
                  have hs6 := hs5.kept k6 (by simp) (by simp)
                  rw [upd_true] at hr6
                  have hG6 := grow_to hG5 k6
                  have hB6 : B ≤ w6.heap.size := Nat.le_trans hB5 k6.size
                  have ho6 := (k6.cell_far ⟨ob, 1, none⟩ hob5 (by simp)).trans ho5
                  have hob6 : ob < w6.heap.size := Nat.lt_of_lt_of_le hob5 k6.size
                  clear hs5 hr5 hG5 hB5 ho5 k6
                  go_wp2
                  go_meet
                  case rel => exact ⟨_, _, _, rfl, hs6, hr6, hG6, hB6, ho6, hob6⟩
                · by_cases hk1 : kind = 1
                  · subst hk1
                    go_wp2_with fail
                    refine (drop_no b g n k S _ hs3 (Or.inr (Or.inr (by simpa using HS.out)))).mono ?_
                    rintro e w5 ⟨rfl, k5, hs5⟩
                    have hr5 := hr3.kept k5 (fun h => by cases h; have := hr3.lt; omega)
                    have hG5 := grow_on hG3 k5 hgW
                    have hB5 : B ≤ w5.heap.size := Nat.le_trans hB3 k5.size
                    have ho5 := (k5.cell_far ⟨ob, 1, none⟩ hob (show (some ob : Option Nat) ≠ some g from fun h => by cases h; omega)).trans ho1
                    have hob5 : ob < w5.heap.size := Nat.lt_of_lt_of_le hob k5.size
                    clear hs3 hr3 hG3 hB3 ho0 k5
                    go_wp2
                    go_meet
                    case rel => exact ⟨_, _, _, rfl, hs5, hr5, hG5, hB5, ho5, hob5⟩
                  · have e0 : (kind == 0) = false := by rw [beq_eq_false_iff_ne]; exact hk0
                    have e1 : (kind == 1) = false := by rw [beq_eq_false_iff_ne]; exact hk1
                    go_wp2
                    go_meet
                    case rel => exact ⟨_, _, _, rfl, hs3, hr3, hG3, hB3, ho1, hob⟩
              · have ev : hv = true := (HV.out.trans hvv).trans hS
                subst ev
                have HS := Lib.hid hS
                clear hS hvv
                by_cases hk0 : kind = 0
                · subst hk0
                  go_wp2_with fail
                  refine (put_no b g n k S _ hs3 (Or.inr (Or.inr (by simpa using HS.out)))).mono ?_
                  rintro e w5 ⟨rfl, k5, hs5⟩
                  have hr5 := hr3.kept k5 (fun h => by cases h; have := hr3.lt; omega)
                  have hG5 := grow_on hG3 k5 hgW
                  have hB5 : B ≤ w5.heap.size := Nat.le_trans hB3 k5.size
                  have ho5 := (k5.cell_far ⟨ob, 1, none⟩ hob (show (some ob : Option Nat) ≠ some g from fun h => by cases h; omega)).trans ho1
                  have hob5 : ob < w5.heap.size := Nat.lt_of_lt_of_le hob k5.size
                  clear hs3 hr3 hG3 hB3 ho0 k5
                  go_wp2
                  go_meet
                  case rel => exact ⟨_, _, _, rfl, hs5, hr5, hG5, hB5, ho5, hob5⟩
                · by_cases hk1 : kind = 1
                  · subst hk1
                    go_wp2_with fail
                    refine (drop_in b g n k S _ hs3 hk HS.out).mono ?_
                    rintro e w5 ⟨rfl, k5, hs5⟩
                    have hr5 := hr3.kept k5 (fun h => by cases h; have := hr3.lt; omega)
                    have hG5 := grow_on hG3 k5 hgW
                    have hB5 : B ≤ w5.heap.size := Nat.le_trans hB3 k5.size
                    have ho5 := (k5.cell_far ⟨ob, 1, none⟩ hob (show (some ob : Option Nat) ≠ some g from fun h => by cases h; omega)).trans ho1
                    have hob5 : ob < w5.heap.size := Nat.lt_of_lt_of_le hob k5.size
                    clear hs3 hr3 hG3 hB3 ho0 k5
                    go_wp2_with fail
                    refine (rset B r cp n k false S _ hr5 hB5 hn4 hk).mono ?_
                    rintro e w6 ⟨r6, cp6, rfl, k6, hr6⟩
                    have hs6 := hs5.kept k6 (by simp) (by simp)
                    rw [upd_false] at hr6
                    have hG6 := grow_to hG5 k6
                    have hB6 : B ≤ w6.heap.size := Nat.le_trans hB5 k6.size
                    have ho6 := (k6.cell_far ⟨ob, 1, none⟩ hob5 (by simp)).trans ho5
                    have hob6 : ob < w6.heap.size := Nat.lt_of_lt_of_le hob5 k6.size
                    clear hs5 hr5 hG5 hB5 ho5 k6
                    go_wp2
                    go_meet
                    case rel => exact ⟨_, _, _, rfl, hs6, hr6, hG6, hB6, ho6, hob6⟩
                  · have e0 : (kind == 0) = false := by rw [beq_eq_false_iff_ne]; exact hk0
                    have e1 : (kind == 1) = false := by rw [beq_eq_false_iff_ne]; exact hk1
                    go_wp2
                    go_meet
                    case rel => exact ⟨_, _, _, rfl, hs3, hr3, hG3, hB3, ho1, hob⟩
        case rest =>
          obtain ⟨S', r', cp', rfl, hs, hr, hG, hBc, ho, hoc⟩ := hcut
          clear hs3 hr3 hG3 hB3 ho0 ho1
          have k4 := World.grownBy_alloc wc (.cells #[.int .i64 ask, .int .i64 K] 3) none
          have hl0 : (wc.alloc (.cells #[.int .i64 ask, .int .i64 K] 3)).cell? ⟨wc.heap.size, 0, none⟩ = some (.int .i64 ask) := by simp
          have hl1 : (wc.alloc (.cells #[.int .i64 ask, .int .i64 K] 3)).cell? ⟨wc.heap.size, 1, none⟩ = some (.int .i64 K) := by simp
          have hlb : wc.heap.size < (wc.alloc (.cells #[.int .i64 ask, .int .i64 K] 3)).heap.size := by simp
          have hs4 := hs.kept k4 (by simp) (by simp)
          have hr4 := hr.kept k4 (by simp)
          have hG4 := grow_to hG k4
          have hB4 : B ≤ (wc.alloc (.cells #[.int .i64 ask, .int .i64 K] 3)).heap.size := Nat.le_trans hBc k4.size
          clear hs hr hG k4
          go_wp2
          generalize wc.alloc (.cells #[.int .i64 ask, .int .i64 K] 3) = wl at *
          generalize wc.heap.size = lb at *
          have HL : Hid (∀ j2 : Nat, j2 < 2 → wl.cell? ⟨lb, j2, none⟩ = some (.int .i64 (if j2 = 0 then ask else K))) := Lib.hid fun j2 h => by
            rcases j2 with _ | _ | j2
            · exact hl0
            · exact hl1
            · omega
          clear hl0 hl1
          go_loopw [89] (fun it wr => ∃ j2 : Nat, j2 ≤ 2 ∧ it = .int .i64 j2 ∧ wl.grownBy wr none) (fun it _ => 2 - (intOf it).toNat)
          case atStart => exact ⟨0, by omega, rfl, ⟨rfl, rfl, rfl, Nat.le_refl _, fun _ _ _ => rfl⟩⟩
          case round =>
            obtain ⟨j2, hj2, rfl, hk⟩ := hrel
            have hs := hs4.kept hk (by simp) (by simp)
            have hr := hr4.kept hk (by simp)
            by_cases hlt2 : j2 < 2
            · have hc := (hk.cell_far ⟨lb, j2, none⟩ hlb (by simp)).trans (HL.out j2 hlt2)
              generalize (if j2 = 0 then ask else K) = kk at *
              have hTr := (HT.out.kept hG4).kept hk
              obtain ⟨nv, nok, hn⟩ := least_same S' n kk.toNat
              obtain ⟨gv, gok, hgp⟩ := least_same (fun i => !S' i) n kk.toNat
              have c1 := Lib.hid (hn (next_any b g n kk S' _ hs hTr))
              have c2 := Lib.hid (hn (rnext B r' cp' n kk true S' S' _ hr hn4 (fun i => by cases S' i <;> rfl)))
              have c3 := Lib.hid (hgp (gap_any b g n kk S' _ hs hTr))
              have c4 := Lib.hid (hgp (rnext B r' cp' n kk false S' (fun i => !S' i) _ hr hn4 (fun i => by cases S' i <;> rfl)))
              have c5 := Lib.hid (has_v b g n kk S' _ hs)
              clear hn hgp hTr
              go_wp2_with fail
              refine (c1.out).mono ?_
              rintro e w' ⟨rfl, rfl⟩
              go_wp2_with fail
              refine (c2.out).mono ?_
              rintro e w' ⟨rfl, rfl⟩
              go_wp2_with fail
              refine (c3.out).mono ?_
              rintro e w' ⟨rfl, rfl⟩
              go_wp2_with fail
              refine (c4.out).mono ?_
              rintro e w' ⟨rfl, rfl⟩
              go_wp2_with fail
              refine c5.out.mono ?_
              rintro e w6 ⟨rfl, k6⟩
              have hr6 := hr.kept k6 (by simp)
              have hk6 := grow_to hk k6
              clear c1 c2 c3 c4 c5 hs hr hc hk k6
              go_wp2_with fail
              refine (rhas_v B r' cp' n kk S' _ hr6).mono ?_
              rintro e w7 ⟨rfl, rfl⟩
              clear hr6
              generalize hasV S' n kk = hv2 at *
              go_wp2
              go_roundw
              case rel => exact ⟨j2 + 1, by omega, by go_num, hk6⟩
              case measure => simp [intOf]; omega
            · have hG5 := grow_to hG4 hk
              have hB5 : B ≤ _ := Nat.le_trans hB4 hk.size
              clear hs4 hr4 hG4 hB4 HL hk
              go_wp2
              exact ⟨⟨j + 1, S', r', cp', by omega, by go_num, rfl, hs, hr, hG5, hB5⟩, by simp [intOf]; omega⟩
      · have c1 := Lib.hid (size_any b g n S wr hs)
        have c2 := Lib.hid (count_any b g n S wr hs)
        have c3 := Lib.hid (rcount B r cp n S wr hr hn4)
        clear hs hr HSA HZ
        go_wp2_with fail
        refine (c1.out).mono ?_
        rintro e w' ⟨rfl, rfl⟩
        go_wp2_with fail
        refine (c2.out).mono ?_
        rintro e w' ⟨rfl, rfl⟩
        go_wp2_with fail
        refine (c3.out).mono ?_
        rintro e w' ⟨rfl, rfl⟩
        go_wp2
        go_ret
        exact ⟨rfl, hG⟩

end Go.Proofs.YtbpmfldegfngaaaDoor
