/-
  The walk of the statement SlabKinds: things of another type stand in regions as numbers do: what is put in is had back, whole, until it is let go.
-/
import Derived.Test.YtgbodembcnppaaaDoorFillsWalk
import Derived.Deep.RegionHeld3
namespace Go.Proofs.YtgbodembcnppaaaDoor
open Go.RowKit Go.Lib

/-- All places from j on, below m, are taken, no other one. -/
def span_ (j m : Nat) : Nat → Bool := fun i => decide (j ≤ i ∧ i < m)
theorem span_zero (m : Nat) : below_ m = span_ 0 m := by funext i; simp [below_, span_]
theorem span_del (j m : Nat) : del (span_ j m) j = span_ (j + 1) m := by
  funext i
  simp only [del, span_]
  by_cases h : i = j
  · subst h; simp; omega
  · have : (i != j) = true := by rw [bne_iff_ne]; exact h
    rw [this, Bool.true_and]
    apply decide_eq_decide.2; omega
theorem cnt_span (j m n : Nat) (h : m ≤ j) : cnt (span_ j m) n = 0 := by
  have : span_ j m = fun _ => false := by funext i; simp [span_]; omega
  rw [this]; exact cnt_none n

set_option maxRecDepth 100000 in
set_option maxHeartbeats 8000000 in
theorem kinds_walk (room : Int) (saa : Option Addr) (lena capa sba offa : Nat) (za : Nat → Int) (sab : Option Addr) (lenb capb sbb offb : Nat) (zb : Nat → Int) (sat : Option Addr) (lent capt sbt offt : Nat) (zt : Nat → ByteArray) (w : World) (hT : TabAt w)
    (_h1 : lena ≤ maxLen) (hsa : 0 < lena → saa = some ⟨sba, offa, none⟩ ∧ sba < w.heap.size) (hza : ∀ j, j < lena → w.cell? ⟨sba, offa + j, none⟩ = some (.int .u64 (za j)))
    (_h2 : lenb ≤ maxLen) (hsb : 0 < lenb → sab = some ⟨sbb, offb, none⟩ ∧ sbb < w.heap.size) (hzb : ∀ j, j < lenb → w.cell? ⟨sbb, offb + j, none⟩ = some (.int .u64 (zb j)))
    (_h3 : lent ≤ maxLen) (hst : 0 < lent → sat = some ⟨sbt, offt, none⟩ ∧ sbt < w.heap.size) (hzt : ∀ j, j < lent → w.cell? ⟨sbt, offt + j, none⟩ = some (.string (zt j))) :
    Calls Tryd.prog 5 #[.int .i64 room, .slice saa lena capa, .slice sab lenb capb, .slice sat lent capt] w fun e w' => e = .returned (.bool true) ∧ w.grownBy w' none := by
  have HSA := Lib.hid hsa
  have HZA := Lib.hid hza
  have HSB := Lib.hid hsb
  have HZB := Lib.hid hzb
  have HST := Lib.hid hst
  have HZT := Lib.hid hzt
  have HT := Lib.hid hT
  have hpos := tab_pos hT
  clear hsa hza hsb hzb hst hzt hT _h1 _h2 _h3
  by_cases hl : 20 < lent ∨ lena < lent ∨ lenb < lent
  · by_cases c1 : 20 < lent
    · go_enter Tryd.func5, Tryd.ntmps5
      go_wp2_with fail
      refine (alive3 _ HT.out).mono ?_
      rintro e w0 ⟨rfl, hG0⟩
      go_wp2
      go_ret
      exact ⟨rfl, hG0⟩
    by_cases c2 : lena < lent
    · go_enter Tryd.func5, Tryd.ntmps5
      go_wp2_with fail
      refine (alive3 _ HT.out).mono ?_
      rintro e w0 ⟨rfl, hG0⟩
      go_wp2
      go_ret
      exact ⟨rfl, hG0⟩
    have c3 : lenb < lent := by omega
    go_enter Tryd.func5, Tryd.ntmps5
    go_wp2_with fail
    refine (alive3 _ HT.out).mono ?_
    rintro e w0 ⟨rfl, hG0⟩
    go_wp2
    go_ret
    exact ⟨rfl, hG0⟩
  have hl1 : lent ≤ 20 := by omega
  have hl2 : lent ≤ lena := by omega
  have hl3 : lent ≤ lenb := by omega
  clear hl
  have hmask := mask_31 room
  have hrm := mk31_lt room
  generalize mk31 room = rm at *
  obtain ⟨D, hD⟩ : ∃ D : Nat → SP.Pr, D = fun t => ⟨za t, zb t, zt t⟩ := ⟨_, rfl⟩
  have HD : Hid (∀ t, D t = ⟨za t, zb t, zt t⟩) := Lib.hid fun t => by rw [hD]
  clear hD
  go_enter Tryd.func5, Tryd.ntmps5
  go_wp2_with fail
  refine (alive3 _ HT.out).mono ?_
  rintro e w0 ⟨rfl, hG0⟩
  have ka := World.grownBy_alloc w0 (.cells #[.int .i64 5, .int .i64 (rm : Int), .int .i64 5] 3) none
  have CA := Lib.hid (SP.new_made _ 3 3 _ _ (caps_three w0 5 (rm : Int) 5))
  have G1 := grow_to hG0 ka
  clear hG0 ka
  go_wp2_with fail
  refine CA.out.mono ?_
  rintro e w1 ⟨sbA, rb, rfl, k1, A1⟩
  have G2 := grow_to G1 k1
  have hlo : w.heap.size ≤ (w0.alloc (.cells #[.int .i64 5, .int .i64 (rm : Int), .int .i64 5] 3)).heap.size := G1.size
  generalize (w0.alloc (.cells #[.int .i64 5, .int .i64 (rm : Int), .int .i64 5] 3)).heap.size = lo at A1 hlo
  have hlo0 : 0 < lo := by omega
  generalize w1.heap.size = hi at A1
  have e3 : min 3 64 = 3 := rfl
  rw [e3] at A1
  have hn1 : nOf (fun j => if j = 0 then (5 : Int) else if j = 1 then (rm : Int) else 5) 1 = rm := by show roomN (rm : Int) = rm; unfold roomN; omega
  generalize nOf (fun j => if j = 0 then (5 : Int) else if j = 1 then (rm : Int) else 5) = nn at A1 hn1
  have CR : Hid (Calls Tryd.prog 23 #[.pointer (some ⟨sbA, 0, none⟩), .int .i64 1] w1 fun e w' => e = .returned (.pointer (some ⟨rb, 2, none⟩)) ∧ w1.grownBy w' none) := Lib.hid (SP.region_in 1 A1 (by decide))
  clear CA G1 k1 e3
  go_wp2_with fail
  refine CR.out.mono ?_
  rintro e w2 ⟨rfl, k2⟩
  have A2 := A1.grown k2
  have G3 := grow_to G2 k2
  have HN := Lib.hid hn1
  have ST0 : SP.SlabAt w2 lo hi sbA rb 3 nn (upV (fun _ _ => false) 1 (below_ (min 0 rm))) (upV (fun _ _ => SP.Pr.none) 1 (fun i => if i < min 0 rm then D i else SP.Pr.none)) := by
    have h1 : upV (fun _ _ => false) 1 (below_ (min 0 rm)) = (fun _ _ => false) := by funext i q; by_cases e : i = 1 <;> simp [upV, e, below_]
    have h2 : upV (fun _ _ => SP.Pr.none) 1 (fun i => if i < min 0 rm then D i else SP.Pr.none) = (fun _ _ => SP.Pr.none) := by funext i q; by_cases e : i = 1 <;> simp [upV, e]
    rw [h1, h2]; exact A2
  clear CR A1 A2 G2 k2 hmask hn1
  go_wp2
  go_loopw [49] (fun it wr => ∃ t : Nat, t ≤ lent ∧ it = .int .i64 t ∧ SP.SlabAt wr lo hi sbA rb 3 nn (upV (fun _ _ => false) 1 (below_ (min t rm))) (upV (fun _ _ => SP.Pr.none) 1 (fun i => if i < min t rm then D i else SP.Pr.none)) ∧ w.grownBy wr none) (fun it _ => lent - (intOf it).toNat)
  case atStart => exact ⟨0, Nat.zero_le _, rfl, ST0, G3⟩
  case round =>
    obtain ⟨t, ht, rfl, A, hG⟩ := hrel
    clear ST0 G3
    by_cases hlt : t < lent
    · obtain ⟨rfl, hsa⟩ := HSA.out (by omega)
      obtain ⟨rfl, hsb⟩ := HSB.out (by omega)
      obtain ⟨rfl, hst⟩ := HST.out (by omega)
      have ca : wr.drew.cell? ⟨sba, offa + t, none⟩ = some (.int .u64 (za t)) := (hG.cell_far ⟨sba, offa + t, none⟩ hsa (by simp)).trans (HZA.out t (by omega))
      have cb : wr.drew.cell? ⟨sbb, offb + t, none⟩ = some (.int .u64 (zb t)) := (hG.cell_far ⟨sbb, offb + t, none⟩ hsb (by simp)).trans (HZB.out t (by omega))
      have ct : wr.cell? ⟨sbt, offt + t, none⟩ = some (.string (zt t)) := (hG.cell_far ⟨sbt, offt + t, none⟩ hst (by simp)).trans (HZT.out t hlt)
      have q1 : (t : Int) < (lena : Int) := by omega
      have q2 : (t : Int) < (lenb : Int) := by omega
      have q3 : 0 ≤ (t : Int) := by omega
      have kd : wr.grownBy wr.drew none := ⟨rfl, rfl, rfl, Nat.le_refl _, fun _ _ _ => rfl⟩
      have Ad := A.grown kd
      have Gd := grow_to hG kd
      have Td := HT.out.kept Gd
      obtain ⟨pb, po, b, g, R, STEP⟩ := Ad.region 1 (by decide)
      rw [upV_same, upV_same, HN.out] at R
      rw [HN.out] at STEP
      have hdt := HD.out t
      by_cases hroom : t < rm
      · have hmt : min t rm = t := by omega
        rw [hmt] at R STEP
        have c1 := SP.take_some t (D t) R Td hroom (by simp [below_]) (fun q hq => by simp [below_, hq])
        rw [hdt] at c1
        have C1 : Hid (Calls Tryd.prog 24 #[.pointer (some ⟨rb, 2, none⟩), .agg #[.int .u64 (za t), .int .u64 (zb t), .string (zt t)]] wr.drew _) := Lib.hid c1
        clear c1
        have HSTEP := Lib.hid STEP
        have hm1 : min (t + 1) rm = t + 1 := by omega
        have FIN : Hid (∀ v : World, Touch g pb po (rm * 3) wr.drew v → SP.RegMem v rb (2 * 1) pb po b g rm (ins (below_ t) t) (upV (fun i => if i < t then D i else SP.Pr.none) t ⟨za t, zb t, zt t⟩) → SP.SlabAt v lo hi sbA rb 3 nn (upV (fun _ _ => false) 1 (below_ (min (t + 1) rm))) (upV (fun _ _ => SP.Pr.none) 1 (fun i => if i < min (t + 1) rm then D i else SP.Pr.none)) ∧ w.grownBy v none ∧ v.cell? ⟨sba, offa + t, none⟩ = some (.int .u64 (za t)) ∧ v.cell? ⟨sbb, offb + t, none⟩ = some (.int .u64 (zb t))) := Lib.hid fun v hv hr => by
          obtain ⟨y, s⟩ := HSTEP.out v _ _ hv hr
          refine ⟨?_, Only.on Gd y hlo, (y.cell' sba (offa + t) (by have := hG.size; show sba < wr.heap.size; omega) (Or.inl (by omega))).trans ca, (y.cell' sbb (offb + t) (by have := hG.size; show sbb < wr.heap.size; omega) (Or.inl (by omega))).trans cb⟩
          have e1 : upV (upV (fun _ _ => false) 1 (below_ t)) 1 (ins (below_ t) t) = upV (fun _ _ => false) 1 (below_ (min (t + 1) rm)) := by
            rw [below_succ, hm1]; funext i; by_cases e : i = 1 <;> simp [upV, e]
          have e2 : upV (upV (fun _ _ => SP.Pr.none) 1 (fun i => if i < t then D i else SP.Pr.none)) 1 (upV (fun i => if i < t then D i else SP.Pr.none) t ⟨za t, zb t, zt t⟩) = upV (fun _ _ => SP.Pr.none) 1 (fun i => if i < min (t + 1) rm then D i else SP.Pr.none) := by
            rw [hm1]; funext i
            by_cases e : i = 1
            · subst e
              rw [upV_same, upV_same]
              funext q
              by_cases e2 : q = t
              · subst e2; rw [upV_same, if_pos (by omega), hdt]
              · rw [upV_other _ _ _ _ e2]
                by_cases e3 : q < t
                · rw [if_pos e3, if_pos (by omega)]
                · rw [if_neg e3, if_neg (by omega)]
            · rw [upV_other _ _ _ _ e, upV_other _ _ _ _ e, upV_other _ _ _ _ e]
          rw [e1, e2] at s
          exact s
        clear R STEP HSTEP A Ad kd Td hmt hm1 hG Gd hdt
        generalize za t = xa at *
        generalize zb t = xb at *
        generalize zt t = xt at *
        go_upto_region 17 with fail
        go_region_held3 (fun w' => w'.cell? ⟨sba, offa + t, none⟩ = some (.int .u64 xa) ∧ w'.cell? ⟨sbb, offb + t, none⟩ = some (.int .u64 xb)) (first | exact ⟨ca, cb⟩ | exact ⟨ca2, cb2⟩)
          (first
            | (go_at_call 24; (with_reducible refine C1.out.mono ?_); rintro e va ⟨rfl, tv, Rv⟩; obtain ⟨Sv, Gv, ca2, cb2⟩ := FIN.out va tv Rv))
        all_goals
          clear C1 FIN ca cb ca2 cb2 tv Rv
          go_wp2
          go_roundw
          case rel => exact ⟨t + 1, by omega, by go_num, Sv, Gv⟩
          case measure => simp [intOf]; omega
      · have hmt : min t rm = rm := by omega
        have hm1 : min (t + 1) rm = rm := by omega
        rw [hmt] at R
        have C1 : Hid (Calls Tryd.prog 24 #[.pointer (some ⟨rb, 2, none⟩), .agg #[.int .u64 (za t), .int .u64 (zb t), .string (zt t)]] wr.drew _) := Lib.hid (SP.take_none ⟨za t, zb t, zt t⟩ R Td (fun q hq => by simp [below_, hq]))
        have FIN : Hid (∀ v : World, wr.drew.grownBy v none → SP.SlabAt v lo hi sbA rb 3 nn (upV (fun _ _ => false) 1 (below_ (min (t + 1) rm))) (upV (fun _ _ => SP.Pr.none) 1 (fun i => if i < min (t + 1) rm then D i else SP.Pr.none)) ∧ w.grownBy v none ∧ v.cell? ⟨sba, offa + t, none⟩ = some (.int .u64 (za t)) ∧ v.cell? ⟨sbb, offb + t, none⟩ = some (.int .u64 (zb t))) := Lib.hid fun v hv => by
          rw [hm1, ← hmt]
          exact ⟨Ad.grown hv, grow_to Gd hv, (hv.cell_far ⟨sba, offa + t, none⟩ (by have := hG.size; show sba < wr.heap.size; omega) (by simp)).trans ca, (hv.cell_far ⟨sbb, offb + t, none⟩ (by have := hG.size; show sbb < wr.heap.size; omega) (by simp)).trans cb⟩
        clear R STEP A Ad kd Td hmt hm1 hG Gd hdt
        generalize za t = xa at *
        generalize zb t = xb at *
        generalize zt t = xt at *
        go_upto_region 17 with fail
        go_region_held3 (fun w' => w'.cell? ⟨sba, offa + t, none⟩ = some (.int .u64 xa) ∧ w'.cell? ⟨sbb, offb + t, none⟩ = some (.int .u64 xb)) (first | exact ⟨ca, cb⟩ | exact ⟨ca2, cb2⟩)
          (first
            | (go_at_call 24; (with_reducible refine C1.out.mono ?_); rintro e va ⟨rfl, kv⟩; obtain ⟨Sv, Gv, ca2, cb2⟩ := FIN.out va kv))
        all_goals
          clear C1 FIN ca cb ca2 cb2 kv
          go_wp2
          go_roundw
          case rel => exact ⟨t + 1, by omega, by go_num, Sv, Gv⟩
          case measure => simp [intOf]; omega
    · have e : t = lent := by omega
      subst e
      obtain ⟨m', hm'⟩ : ∃ m', m' = min t rm := ⟨_, rfl⟩
      have hmm : Hid (m' = min t rm) := Lib.hid hm'
      have S0 : SP.SlabAt wr lo hi sbA rb 3 nn (upV (fun _ _ => false) 1 (span_ (min 0 m') m')) (upV (fun _ _ => SP.Pr.none) 1 (fun i => if min 0 m' ≤ i ∧ i < m' then D i else SP.Pr.none)) := by
        rw [← hm'] at A
        have e1 : span_ (min 0 m') m' = below_ m' := by rw [Nat.zero_min, ← span_zero]
        have e2 : (fun i => if min 0 m' ≤ i ∧ i < m' then D i else SP.Pr.none) = (fun i => if i < m' then D i else SP.Pr.none) := by funext i; rw [Nat.zero_min]; simp
        rw [e1, e2]; exact A
      clear A hm'
      go_wp2
      go_loopw [85] (fun it wr => ∃ k : Nat, k ≤ t ∧ it = .int .i64 k ∧ SP.SlabAt wr lo hi sbA rb 3 nn (upV (fun _ _ => false) 1 (span_ (min k m') m')) (upV (fun _ _ => SP.Pr.none) 1 (fun i => if min k m' ≤ i ∧ i < m' then D i else SP.Pr.none)) ∧ w.grownBy wr none) (fun it _ => t - (intOf it).toNat)
      case atStart => exact ⟨0, Nat.zero_le _, rfl, S0, hG⟩
      case round =>
        obtain ⟨k, hk, rfl, A, hG'⟩ := hrel
        clear S0 hG
        have hmle := hmm.out
        by_cases hlt2 : k < t
        · obtain ⟨rfl, hsa⟩ := HSA.out (by omega)
          obtain ⟨rfl, hsb⟩ := HSB.out (by omega)
          obtain ⟨rfl, hst⟩ := HST.out (by omega)
          have ct : wr.cell? ⟨sbt, offt + k, none⟩ = some (.string (zt k)) := (hG'.cell_far ⟨sbt, offt + k, none⟩ hst (by simp)).trans (HZT.out k hlt2)
          have ca : Hid (∀ v : World, wr.grownBy v none → v.cell? ⟨sba, offa + k, none⟩ = some (.int .u64 (za k)) ∧ v.cell? ⟨sbb, offb + k, none⟩ = some (.int .u64 (zb k))) := Lib.hid fun v kv => ⟨((hG'.trans kv).cell_far ⟨sba, offa + k, none⟩ hsa (by simp)).trans (HZA.out k (by omega)), ((hG'.trans kv).cell_far ⟨sbb, offb + k, none⟩ hsb (by simp)).trans (HZB.out k (by omega))⟩
          have q1 : (k : Int) < (lena : Int) := by omega
          have q2 : (k : Int) < (lenb : Int) := by omega
          have hdk := HD.out k
          by_cases hroom : k < rm
          · have hkm : k < m' := by omega
            have hmk : min k m' = k := by omega
            rw [hmk] at A
            obtain ⟨pb, po, b, g, R, STEP⟩ := A.region 1 (by decide)
            rw [upV_same, upV_same, HN.out] at R
            rw [HN.out] at STEP
            have c1 := SP.at_in k R (by omega) (by simp [span_, hkm])
            rw [if_pos ⟨Nat.le_refl _, hkm⟩, hdk] at c1
            have C1 : Hid (Calls Tryd.prog 25 #[.pointer (some ⟨rb, 2, none⟩), .int .i64 (k : Int)] wr fun e w' => e = .returned (.tuple #[.agg #[.int .u64 (za k), .int .u64 (zb k), .string (zt k)], .bool true]) ∧ wr.grownBy w' none) := Lib.hid c1
            clear c1
            have HST2 : Hid (∀ v : World, wr.grownBy v none → ∃ pb po b g, SP.RegMem v rb (2 * 1) pb po b g rm (span_ k m') (fun i => if k ≤ i ∧ i < m' then D i else SP.Pr.none) ∧ ∀ v' S' V', Touch g pb po (rm * 3) v v' → SP.RegMem v' rb (2 * 1) pb po b g rm S' V' → Only lo hi v v' ∧ SP.SlabAt v' lo hi sbA rb 3 nn (upV (upV (fun _ _ => false) 1 (span_ k m')) 1 S') (upV (upV (fun _ _ => SP.Pr.none) 1 (fun i => if k ≤ i ∧ i < m' then D i else SP.Pr.none)) 1 V')) := Lib.hid fun v kv => by
              obtain ⟨pb, po, b, g, R, STEP⟩ := (A.grown kv).region 1 (by decide)
              rw [upV_same, upV_same, HN.out] at R
              rw [HN.out] at STEP
              exact ⟨pb, po, b, g, R, STEP⟩
            have HGR := Lib.hid hG'
            clear R STEP A hG' hmk hdk
            generalize za k = xa at *
            generalize zb k = xb at *
            generalize zt k = xt at *
            go_wp2_with fail
            refine C1.out.mono ?_
            rintro e w1 ⟨rfl, k1⟩
            have kp := World.grownBy_alloc w1 (.cells #[.int .u64 xa, .int .u64 xb, .string xt] 53) none
            have p0 : (w1.alloc (.cells #[.int .u64 xa, .int .u64 xb, .string xt] 53)).cell? ⟨w1.heap.size, 0, none⟩ = some (.int .u64 xa) := World.cell?_alloc_new ..
            have p1 : (w1.alloc (.cells #[.int .u64 xa, .int .u64 xb, .string xt] 53)).cell? ⟨w1.heap.size, 1, none⟩ = some (.int .u64 xb) := World.cell?_alloc_new ..
            have p2 : (w1.alloc (.cells #[.int .u64 xa, .int .u64 xb, .string xt] 53)).cell? ⟨w1.heap.size, 2, none⟩ = some (.string xt) := World.cell?_alloc_new ..
            obtain ⟨ca1, cb1⟩ := ca.out _ (k1.trans kp)
            have K1 := Lib.hid (k1.trans kp)
            clear C1 ct k1 kp ca
            go_wp2_with fail
            generalize hwp : w1.alloc (.cells #[.int .u64 xa, .int .u64 xb, .string xt] 53) = wp at *
            generalize w1.heap.size = pbk at *
            have q0 : 0 ≤ (k : Int) := by omega
            have q5 : decide ((k : Int) < (rm : Int)) = true := by simp; omega
            go_quiet (fail)
            have K2 := K1.out.trans (grow_draw wp none nq)
            generalize wp.drewN nq = v0 at K2 ⊢
            obtain ⟨pb, po, b, g, R, STEP⟩ := HST2.out v0 K2
            have G0 := HGR.out.trans K2
            have C1 : Hid (Calls Tryd.prog 26 #[.pointer (some ⟨rb, 2, none⟩), .int .i64 (k : Int)] v0 fun e w' => e = .returned (.bool true) ∧ Touch g pb po (rm * 3) v0 w' ∧ SP.RegMem w' rb (2 * 1) pb po b g rm (del (span_ k m') k) (upV (fun i => if k ≤ i ∧ i < m' then D i else SP.Pr.none) k SP.Pr.none)) := Lib.hid (SP.give_in k R hroom (by simp [span_, hkm]))
            have HSTEP := Lib.hid STEP
            clear R STEP K1 K2 HST2 HGR p0 p1 p2 ca1 cb1 hwp
            go_wp2_with fail
            refine C1.out.mono ?_
            rintro e v1 ⟨rfl, t1, R1⟩
            obtain ⟨y1, S1⟩ := HSTEP.out v1 _ _ t1 R1
            have G1 := Only.on G0 y1 hlo
            rw [span_del] at R1
            have S1' : SP.SlabAt v1 lo hi sbA rb 3 nn (upV (fun _ _ => false) 1 (span_ (min (k + 1) m') m')) (upV (fun _ _ => SP.Pr.none) 1 (fun i => if min (k + 1) m' ≤ i ∧ i < m' then D i else SP.Pr.none)) := by
              have hmk1 : min (k + 1) m' = k + 1 := by omega
              rw [span_del] at S1
              have e1 : upV (upV (fun _ _ => false) 1 (span_ k m')) 1 (span_ (k + 1) m') = upV (fun _ _ => false) 1 (span_ (min (k + 1) m') m') := by
                rw [hmk1]; funext i; by_cases e : i = 1 <;> simp [upV, e]
              have e2 : upV (upV (fun _ _ => SP.Pr.none) 1 (fun i => if k ≤ i ∧ i < m' then D i else SP.Pr.none)) 1 (upV (fun i => if k ≤ i ∧ i < m' then D i else SP.Pr.none) k SP.Pr.none) = upV (fun _ _ => SP.Pr.none) 1 (fun i => if min (k + 1) m' ≤ i ∧ i < m' then D i else SP.Pr.none) := by
                rw [hmk1]; funext i
                by_cases e : i = 1
                · subst e
                  rw [upV_same, upV_same]
                  funext q
                  by_cases e2 : q = k
                  · subst e2; rw [upV_same, if_neg (by omega)]
                  · rw [upV_other _ _ _ _ e2]
                    by_cases e3 : k ≤ q ∧ q < m'
                    · rw [if_pos e3, if_pos (by omega)]
                    · rw [if_neg e3, if_neg (by omega)]
                · rw [upV_other _ _ _ _ e, upV_other _ _ _ _ e, upV_other _ _ _ _ e]
              rw [e1, e2] at S1
              exact S1
            have hnot : span_ (k + 1) m' k = false := by simp [span_]; omega
            have HR1 := Lib.hid R1
            have HS1 := Lib.hid S1'
            have HG1 := Lib.hid G1
            have C2 : Hid (Calls Tryd.prog 27 #[.pointer (some ⟨rb, 2, none⟩), .int .i64 (k : Int)] v1 fun e w' => e = .returned (.bool false) ∧ v1.grownBy w' none) := Lib.hid (SP.has_any k false R1 (Or.inl ⟨by omega, by omega, by simpa using hnot⟩))
            have C3 : Hid (∀ v : World, v1.grownBy v none → Calls Tryd.prog 26 #[.pointer (some ⟨rb, 2, none⟩), .int .i64 (k : Int)] v fun e w' => e = .returned (.bool false) ∧ v.grownBy w' none) := Lib.hid fun v kv => SP.give_no k (HR1.out.kept kv) (Or.inr (Or.inr (by simpa using hnot)))
            have C4 : Hid (∀ v : World, v1.grownBy v none → Calls Tryd.prog 25 #[.pointer (some ⟨rb, 2, none⟩), .int .i64 (k : Int)] v fun e w' => e = .returned (.tuple #[.agg #[.int .u64 0, .int .u64 0, .string ⟨#[]⟩], .bool false]) ∧ v.grownBy w' none) := Lib.hid fun v kv => SP.at_no k (HR1.out.kept kv) (Or.inr (Or.inr (by simpa using hnot)))
            clear C1 HSTEP t1 R1 y1 S1 S1' G1 G0 hnot
            go_wp2_with fail
            refine C2.out.mono ?_
            rintro e v2 ⟨rfl, k2⟩
            go_wp2_with fail
            refine (C3.out v2 k2).mono ?_
            rintro e v3 ⟨rfl, k3⟩
            have k13 := k2.trans k3
            go_wp2_with fail
            refine (C4.out v3 k13).mono ?_
            rintro e v4 ⟨rfl, k4⟩
            have k14 := Lib.hid (k13.trans k4)
            have z0 : (v4.alloc (.cells #[.int .u64 0, .int .u64 0, .string ⟨#[]⟩] 53)).cell? ⟨v4.heap.size, 0, none⟩ = some (.int .u64 0) := World.cell?_alloc_new ..
            have z1 : (v4.alloc (.cells #[.int .u64 0, .int .u64 0, .string ⟨#[]⟩] 53)).cell? ⟨v4.heap.size, 1, none⟩ = some (.int .u64 0) := World.cell?_alloc_new ..
            have z2 : (v4.alloc (.cells #[.int .u64 0, .int .u64 0, .string ⟨#[]⟩] 53)).cell? ⟨v4.heap.size, 2, none⟩ = some (.string ⟨#[]⟩) := World.cell?_alloc_new ..
            have k5 := Lib.hid (World.grownBy_alloc v4 (.cells #[.int .u64 0, .int .u64 0, .string ⟨#[]⟩] 53) none)
            clear C2 C3 C4 k2 k3 k4 k13
            go_wp2
            go_roundw
            case rel => exact ⟨k + 1, by omega, by go_num, HS1.out.grown (k14.out.trans k5.out), HG1.out.trans (k14.out.trans k5.out)⟩
            case measure => simp [intOf]; omega
          · have hkm : min k m' = m' := by omega
            have hkm1 : min (k + 1) m' = m' := by omega
            have C1 : Hid (∀ v : World, wr.grownBy v none → Calls Tryd.prog 25 #[.pointer (some ⟨rb, 2, none⟩), .int .i64 (k : Int)] v fun e w' => e = .returned (.tuple #[.agg #[.int .u64 0, .int .u64 0, .string ⟨#[]⟩], .bool false]) ∧ v.grownBy w' none) := Lib.hid fun v kv => by
              obtain ⟨pb, po, b, g, R, _⟩ := (A.grown kv).region 1 (by decide)
              rw [HN.out] at R
              exact SP.at_no k R (Or.inr (Or.inl (by omega)))
            have FIN : Hid (∀ v : World, wr.grownBy v none → SP.SlabAt v lo hi sbA rb 3 nn (upV (fun _ _ => false) 1 (span_ (min (k + 1) m') m')) (upV (fun _ _ => SP.Pr.none) 1 (fun i => if min (k + 1) m' ≤ i ∧ i < m' then D i else SP.Pr.none)) ∧ w.grownBy v none) := Lib.hid fun v kv => by
              rw [hkm1, ← hkm]
              exact ⟨by rw [hkm]; rw [hkm] at A; exact A.grown kv, hG'.trans kv⟩
            have C0 := Lib.hid (C1.out wr (SI.grow_refl _))
            clear A hG' hkm hkm1 hdk ca
            go_wp2_with fail
            refine C0.out.mono ?_
            rintro e w1 ⟨rfl, k1⟩
            have kp := World.grownBy_alloc w1 (.cells #[.int .u64 0, .int .u64 0, .string ⟨#[]⟩] 53) none
            have K1 := Lib.hid (k1.trans kp)
            have p0 : (w1.alloc (.cells #[.int .u64 0, .int .u64 0, .string ⟨#[]⟩] 53)).cell? ⟨w1.heap.size, 0, none⟩ = some (.int .u64 0) := World.cell?_alloc_new ..
            have p1 : (w1.alloc (.cells #[.int .u64 0, .int .u64 0, .string ⟨#[]⟩] 53)).cell? ⟨w1.heap.size, 1, none⟩ = some (.int .u64 0) := World.cell?_alloc_new ..
            have p2 : (w1.alloc (.cells #[.int .u64 0, .int .u64 0, .string ⟨#[]⟩] 53)).cell? ⟨w1.heap.size, 2, none⟩ = some (.string ⟨#[]⟩) := World.cell?_alloc_new ..
            clear C0 ct k1 kp
            go_wp2_with fail
            generalize w1.alloc (.cells #[.int .u64 0, .int .u64 0, .string ⟨#[]⟩] 53) = wp at *
            generalize w1.heap.size = pbk at *
            have q0 : 0 ≤ (k : Int) := by omega
            have q5 : decide ((k : Int) < (rm : Int)) = false := by simp; omega
            go_quiet (fail)
            have K2 := K1.out.trans (grow_draw wp none nq)
            generalize wp.drewN nq = v0 at K2 ⊢
            have C2 := Lib.hid (C1.out v0 K2)
            clear C1 K1 p0 p1 p2
            go_wp2_with fail
            refine C2.out.mono ?_
            rintro e v4 ⟨rfl, k4⟩
            have k14 := Lib.hid (K2.trans k4)
            have z0 : (v4.alloc (.cells #[.int .u64 0, .int .u64 0, .string ⟨#[]⟩] 53)).cell? ⟨v4.heap.size, 0, none⟩ = some (.int .u64 0) := World.cell?_alloc_new ..
            have z1 : (v4.alloc (.cells #[.int .u64 0, .int .u64 0, .string ⟨#[]⟩] 53)).cell? ⟨v4.heap.size, 1, none⟩ = some (.int .u64 0) := World.cell?_alloc_new ..
            have z2 : (v4.alloc (.cells #[.int .u64 0, .int .u64 0, .string ⟨#[]⟩] 53)).cell? ⟨v4.heap.size, 2, none⟩ = some (.string ⟨#[]⟩) := World.cell?_alloc_new ..
            have k5 := Lib.hid (World.grownBy_alloc v4 (.cells #[.int .u64 0, .int .u64 0, .string ⟨#[]⟩] 53) none)
            clear C2 K2 k4
            go_wp2
            go_roundw
            case rel => exact ⟨k + 1, by omega, by go_num, (FIN.out _ (k14.out.trans k5.out)).1, (FIN.out _ (k14.out.trans k5.out)).2⟩
            case measure => simp [intOf]; omega
        · have e : k = t := by omega
          subst e
          have hkm : min k m' = m' := by omega
          rw [hkm] at A
          have D1 : Hid (Calls Tryd.prog 28 #[.pointer (some ⟨rb, 2, none⟩)] wr fun e w' => e = .returned (.int .i64 0) ∧ wr = w') := Lib.hid (by
            obtain ⟨pb, po, b, g, R, _⟩ := A.region 1 (by decide)
            rw [upV_same] at R
            have c := SP.count_any R
            rw [cnt_span _ _ _ (Nat.le_refl _)] at c
            exact c)
          have D2 : Hid (Calls Tryd.prog 23 #[.pointer (some ⟨sbA, 0, none⟩), .int .i64 0] wr fun e w' => e = .returned (.pointer (some ⟨rb, 0, none⟩)) ∧ wr.grownBy w' none) := Lib.hid (SP.region_in 0 A (by decide))
          have D3 : Hid (∀ v : World, wr.grownBy v none → Calls Tryd.prog 28 #[.pointer (some ⟨rb, 0, none⟩)] v fun e w' => e = .returned (.int .i64 0) ∧ v = w') := Lib.hid fun v kv => by
            obtain ⟨pb, po, b, g, R, _⟩ := (A.grown kv).region 0 (by decide)
            rw [upV_other _ _ _ _ (by decide)] at R
            have c := SP.count_any R
            rw [cnt_none] at c
            exact c
          have D4 : Hid (∀ v : World, wr.grownBy v none → Calls Tryd.prog 23 #[.pointer (some ⟨sbA, 0, none⟩), .int .i64 2] v fun e w' => e = .returned (.pointer (some ⟨rb, 4, none⟩)) ∧ v.grownBy w' none) := Lib.hid fun v kv => SP.region_in 2 (A.grown kv) (by decide)
          have D5 : Hid (∀ v : World, wr.grownBy v none → Calls Tryd.prog 28 #[.pointer (some ⟨rb, 4, none⟩)] v fun e w' => e = .returned (.int .i64 0) ∧ v = w') := Lib.hid fun v kv => by
            obtain ⟨pb, po, b, g, R, _⟩ := (A.grown kv).region 2 (by decide)
            rw [upV_other _ _ _ _ (by decide)] at R
            have c := SP.count_any R
            rw [cnt_none] at c
            exact c
          clear A hkm
          go_wp2_with fail
          refine (D1.out).mono ?_
          rintro e w' ⟨rfl, rfl⟩
          go_wp2_with fail
          refine D2.out.mono ?_
          rintro e v1 ⟨rfl, k1⟩
          have E3 := Lib.hid (D3.out v1 k1)
          have E4 := Lib.hid (D4.out v1 k1)
          clear D1 D2 D3 D4
          go_wp2_with fail
          refine (E3.out).mono ?_
          rintro e w' ⟨rfl, rfl⟩
          go_wp2_with fail
          refine E4.out.mono ?_
          rintro e v2 ⟨rfl, k2⟩
          have k12 := k1.trans k2
          have E5 := Lib.hid (D5.out v2 k12)
          have GG := hG'.trans k12
          clear D5 E3 E4
          go_wp2_with fail
          refine (E5.out).mono ?_
          rintro e w' ⟨rfl, rfl⟩
          go_wp2
          go_ret
          exact ⟨rfl, GG⟩

end Go.Proofs.YtgbodembcnppaaaDoor
