/-
  The walk of LedgerParts, over this seat's translation: for every bound and parts it answers true, and leaves all that was as it was.
-/
import Derived.Test.YtchookgdajkipaaAlive6
import Derived.Test.YtchookgdajkipaaPlain
namespace Go.Proofs.Ytchookgdajkipaa
open Go.RowKit Go.Lib
set_option maxRecDepth 100000

theorem and4095 (r : Int) : bits .and .i64 r 4095 = r % 4096 := by
  have := i64_mask 12 (by decide) r
  simpa using this
theorem and255' (r : Int) : bits .and .i64 r 255 = r % 256 := by
  have := i64_mask 8 (by decide) r
  simpa using this

set_option maxRecDepth 100000 in
set_option maxHeartbeats 8000000 in
theorem parts_walk (x : Int) (sa : Option Addr) (len cap sb off : Nat) (zs : Nat → Int) (w : World)
    (_hm : len ≤ maxLen) (hsa : 0 < len → sa = some ⟨sb, off, none⟩ ∧ sb < w.heap.size) (hz : ∀ j, j < len → w.cell? ⟨sb, off + j, none⟩ = some (.int .i64 (zs j))) :
    Calls Try.prog 6 #[.int .i64 x, .slice sa len cap] w fun e w' => e = .returned (.bool true) ∧ w.grownBy w' none := by
  have C0 := Lib.hid (alive6 w)
  have HSA := Lib.hid hsa
  have HZ := Lib.hid hz
  clear hsa hz
  obtain ⟨limit, ha, ha1, ha2⟩ : ∃ a, bits .and .i64 x 4095 = a ∧ 0 ≤ a ∧ a < 4096 := ⟨_, rfl, by rw [and4095]; omega, by rw [and4095]; omega⟩
  by_cases hlen : 40 < len
  · have q : (40 : Int) < (len : Int) := by omega
    go_enter Try.func6, Try.ntmps6
    go_wp2_with fail
    refine C0.out.mono ?_
    rintro e w1 ⟨rfl, k1⟩
    go_wp2
    go_ret
    exact ⟨rfl, k1⟩
  have q : ¬ (40 : Int) < (len : Int) := by omega
  go_enter Try.func6, Try.ntmps6
  go_wp2_with fail
  refine C0.out.mono ?_
  rintro e w1 ⟨rfl, k1⟩
  have ka := World.grownBy_alloc w1 (.cells #[.slice none 0 0] 43) none
  have kb := World.grownBy_alloc (w1.alloc (.cells #[.slice none 0 0] 43)) (.cells #[.slice none 0 0] 43) none
  have A0' := (LI.bk_new w1 w1.heap.size (Nat.le_refl _)).kept kb
  have hs1 : (w1.alloc (.cells #[.slice none 0 0] 43)).heap.size = w1.heap.size + 1 := by simp
  have B0' := LI.bk_new (w1.alloc (.cells #[.slice none 0 0] 43)) w1.heap.size (by omega)
  rw [hs1] at B0'
  have G0' := k1.trans (ka.trans kb)
  have hB : w.heap.size ≤ w1.heap.size := k1.size
  have CS := Lib.hid (LI.one_limit0 limit A0' (by omega) 1)
  have HI := Lib.hid B0'
  have HG := Lib.hid G0'
  clear A0' B0' G0' ka kb C0 k1
  unfold LI.kv at *
  go_wp2_with fail
  generalize (w1.alloc (.cells #[.slice none 0 0] 43)).alloc (.cells #[.slice none 0 0] 43) = u0 at *
  refine CS.out.mono ?_
  rintro e u1 ⟨⟨y, rfl⟩, q1, va, hv, S1⟩
  have A1 : Apt w1.heap.size va (w1.heap.size + 1) (.slice none 0 0) := Apt.new (v := .slice none 0 0) ⟨by omega, (by intro h; cases h), (by intro h; cases h), Or.inl rfl⟩ hv HI.out.lb.2 (fun r h => by cases h)
  have I1 := HI.out.off q1 A1.a.symm (by intro h; cases h) (by intro h; cases h) (Or.inl rfl)
  have g1 := q1.grown_own HG.out ⟨hB, fun r h => by cases h⟩
  have hA : w.heap.size ≤ w1.heap.size ∧ ∀ r, va.ownBlock = some r → w.heap.size ≤ r := ⟨hB, fun r h => Nat.le_trans hB (LI.Bk.rowlt S1 r h).1⟩
  have hSl : ∀ r, va.ownBlock = some r → r < u1.heap.size := fun r h => (LI.Bk.rowlt S1 r h).2
  have hSb : w1.heap.size < u1.heap.size := S1.lb.2
  clear CS HI HG q1 hv
  have CI := Lib.hid (LI.one_limit0 limit I1 (by omega) 1)
  unfold LI.kv at *
  go_wp2_with fail
  refine CI.out.mono ?_
  rintro e w2 ⟨⟨y2, rfl⟩, q2, vb, hv2, B0⟩
  have A := (Apt.new A1.symm hv2 hSb hSl).symm
  have S0 := LI.Bk.off S1 q2 A1.a (by intro h; cases h) (fun e => A1.b e.symm) (by cases h : va.ownBlock with | none => exact Or.inl rfl | some r => exact Or.inr (by intro h; cases h))
  have G0 := q2.grown_own g1 ⟨by omega, fun r h => by cases h⟩
  have hBb : w.heap.size ≤ w1.heap.size + 1 ∧ ∀ r, vb.ownBlock = some r → w.heap.size ≤ r := ⟨by omega, fun r h => Nat.le_trans hB (LI.Bk.rowlt B0 r h).1⟩
  clear CI I1 g1 S1 A1 q2 hv2 hSl hSb hs1
  have em : max limit 0 = limit := by omega
  rw [em] at S0 B0
  clear em
  have S0 : LI.One w2 w1.heap.size w1.heap.size va 1 limit 0 := S0
  have B0 : LI.One w2 w1.heap.size (w1.heap.size + 1) vb 1 limit 0 := B0
  generalize w1.heap.size = ba at *
  go_wp2_with fail
  go_loopw [7, 8, 25] (fun sv av it wr => ∃ (j : Nat) (sum : Int) (all : Bool), j ≤ len ∧ it = .int .i64 j ∧ sv = .int .i64 sum ∧ av = .bool all ∧ 0 ≤ sum ∧ sum ≤ limit ∧ LI.One wr ba ba va 1 limit sum ∧ LI.One wr ba (ba + 1) vb 1 limit 0 ∧ w.grownBy wr none) (fun _ _ it _ => len - (Go.RowKit.intOf it).toNat)
  case atStart => exact ⟨0, 0, true, Nat.zero_le _, rfl, rfl, rfl, by omega, ha1, S0, B0, G0⟩
  case round =>
    obtain ⟨j, sum, all, hj, rfl, rfl, rfl, hs0, hs1, S1, B1, G1⟩ := hrel
    clear S0 B0 G0
    by_cases hlt : j < len
    · obtain ⟨rfl, hsb⟩ := HSA.out (by omega)
      have hc : wr.cell? ⟨sb, off + j, none⟩ = some (.int .i64 (zs j)) := (G1.cell_far ⟨sb, off + j, none⟩ hsb (by simp)).trans (HZ.out j hlt)
      have q1 : (j : Int) < (len : Int) := by omega
      obtain ⟨t, ht, ht1, ht2⟩ : ∃ a, bits .and .i64 (zs j) 255 = a ∧ 0 ≤ a ∧ a < 256 := ⟨_, rfl, by rw [and255']; omega, by rw [and255']; omega⟩
      by_cases hok : t ≤ limit - sum
      · have C := Lib.hid (LI.one_take t S1 ht1 hok)
        unfold LI.kv at *
        clear S1
        have q2 : sum + t ≤ limit := by omega
        go_wp2_with fail
        refine C.out.mono ?_
        rintro e w3 ⟨rfl, q3, S2⟩
        have B2 := LI.Bk.off B1 q3 A.a.symm A.b A.c A.d
        have G2 := q3.grown_own G1 hA
        clear C q3 G1 B1
        cases all
        · go_wp2
          go_roundw
          case rel => exact ⟨j + 1, sum + t, false, by omega, by go_num, rfl, rfl, by omega, q2, S2, B2, G2⟩
          case measure => simp [Go.RowKit.intOf]; omega
        · go_wp2
          go_roundw
          case rel => exact ⟨j + 1, sum + t, true, by omega, by go_num, rfl, rfl, by omega, q2, S2, B2, G2⟩
          case measure => simp [Go.RowKit.intOf]; omega
      · have C := Lib.hid (LI.one_take_no t S1 (by omega))
        unfold LI.kv at *
        have q2 : ¬ sum + t ≤ limit := by omega
        go_wp2_with fail
        refine C.out.mono ?_
        rintro e w3 ⟨rfl, q3⟩
        have S2 := S1.kept q3
        have B2 := B1.kept q3
        have G2 := G1.trans q3
        clear C q3 G1 B1 S1
        cases all
        · go_wp2
          go_roundw
          case rel => exact ⟨j + 1, sum, false, by omega, by go_num, rfl, rfl, hs0, hs1, S2, B2, G2⟩
          case measure => simp [Go.RowKit.intOf]; omega
        · go_wp2
          go_roundw
          case rel => exact ⟨j + 1, sum, false, by omega, by go_num, rfl, rfl, hs0, hs1, S2, B2, G2⟩
          case measure => simp [Go.RowKit.intOf]; omega
    · obtain rfl : j = len := by omega
      have C := Lib.hid (LI.one_take sum B1 hs0 (by omega))
      unfold LI.kv at *
      clear B1
      go_wp2_with fail
      refine C.out.mono ?_
      rintro e w3 ⟨rfl, q3, B2⟩
      have S2 := LI.Bk.off S1 q3 A.a A.symm.b A.symm.c A.symm.d
      have G2 := q3.grown_own G1 hBb
      have S2 : LI.One w3 ba ba va 1 limit sum := S2
      rw [Int.zero_add] at B2
      clear C q3 G1 S1
      have em : max (limit - sum) 0 = limit - sum := by omega
      have C := Lib.hid (LI.one_used S2)
      unfold LI.kv at *
      go_wp2_with fail
      refine C.out.mono ?_
      rintro e w4 ⟨rfl, q3⟩
      have S3 := S2.kept q3
      have B3 := B2.kept q3
      have G3 := G2.trans q3
      clear C q3 S2 B2 G2
      have C := Lib.hid (LI.one_used B3)
      unfold LI.kv at *
      go_wp2_with fail
      refine C.out.mono ?_
      rintro e w5 ⟨rfl, q3⟩
      have S4 := S3.kept q3
      have B4 := B3.kept q3
      have G4 := G3.trans q3
      clear C q3 S3 B3 G3
      have C := Lib.hid (LI.one_left S4)
      rw [em] at C
      unfold LI.kv at *
      go_wp2_with fail
      refine C.out.mono ?_
      rintro e w6 ⟨rfl, q3⟩
      have S5 := S4.kept q3
      have B5 := B4.kept q3
      have G5 := G4.trans q3
      clear C q3 S4 B4 G4
      have C := Lib.hid (LI.one_left S5)
      rw [em] at C
      unfold LI.kv at *
      go_wp2_with fail
      refine C.out.mono ?_
      rintro e w7 ⟨rfl, q3⟩
      have S6 := S5.kept q3
      have B6 := B5.kept q3
      have G6 := G5.trans q3
      clear C q3 S5 B5 G5
      have C := Lib.hid (LI.one_left B6)
      rw [em] at C
      unfold LI.kv at *
      go_wp2_with fail
      refine C.out.mono ?_
      rintro e w8 ⟨rfl, q3⟩
      have S7 := S6.kept q3
      have B7 := B6.kept q3
      have G7 := G6.trans q3
      clear C q3 S6 B6 G6
      cases all
      · go_wp2
        go_ret
        exact ⟨rfl, G7⟩
      · have C := Lib.hid (LI.one_give sum S7 hs0 (Int.le_refl _))
        unfold LI.kv at *
        clear S7
        go_wp2_with fail
        refine C.out.mono ?_
        rintro e x1 ⟨rfl, q3, T1⟩
        have D1 := LI.Bk.off B7 q3 A.a.symm A.b A.c A.d
        have F1 := q3.grown_own G7 hA
        have D1 : LI.One x1 ba (ba + 1) vb 1 limit sum := D1
        rw [Int.sub_self] at T1
        clear C q3 G7 B7
        have C := Lib.hid (LI.one_give sum D1 hs0 (Int.le_refl _))
        unfold LI.kv at *
        clear D1
        go_wp2_with fail
        refine C.out.mono ?_
        rintro e x2 ⟨rfl, q3, D2⟩
        have T2 := LI.Bk.off T1 q3 A.a A.symm.b A.symm.c A.symm.d
        have F2 := q3.grown_own F1 hBb
        have T2 : LI.One x2 ba ba va 1 limit 0 := T2
        clear C q3 F1 T1 D2
        have C := Lib.hid (LI.one_used T2)
        unfold LI.kv at *
        go_wp2_with fail
        refine C.out.mono ?_
        rintro e x3 ⟨rfl, q3⟩
        have T3 := T2.kept q3
        have F3 := F2.trans q3
        clear C q3 F2 T2
        have C := Lib.hid (LI.one_left T3)
        have em2 : max (limit - 0) 0 = limit := by omega
        rw [em2] at C
        unfold LI.kv at *
        go_wp2_with fail
        refine C.out.mono ?_
        rintro e x4 ⟨rfl, q3⟩
        have F4 := F3.trans q3
        go_wp2
        go_ret
        exact ⟨rfl, F4⟩
end Go.Proofs.Ytchookgdajkipaa
