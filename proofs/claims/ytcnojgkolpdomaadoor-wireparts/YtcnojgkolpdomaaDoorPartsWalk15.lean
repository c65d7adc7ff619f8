/-
  WireParts, the walk, over this seat's translation.
-/
import Derived.Test.YtcnojgkolpdomaaDoorWireN
namespace Go.Proofs.YtcnojgkolpdomaaDoor
open Go.RowKit Go.Lib
set_option maxRecDepth 100000
set_option linter.unusedVariables false

theorem wrV_yes {L : List En} (h : L.all okE = true) (v : Value) : wrV L v = .tuple #[v, .int .i64 0] := by rw [wrV, h]; rfl
theorem wrV_no {L : List En} (h : L.all okE = false) (v : Value) : wrV L v = .tuple #[.slice none 0 0, .int .i64 11] := by rw [wrV, h]; rfl

set_option maxHeartbeats 8000000 in
theorem parts_law (va : Value) (L : List En) (vb : Value) (M : List En) (w : World) (HT : FormsAt w) (HL : ReadsE w va L) (HM : ReadsE w vb M) :
    Calls Tryd.prog 11 #[va, vb] w fun r w' => r = .returned (.bool true) ∧ w.grownBy w' none := by
  have HT0 := Lib.hid HT
  have HL0 := Lib.hid HL
  have HM0 := Lib.hid HM
  have AL := Lib.hid (alive15 HT)
  obtain ⟨a, cap, rfl, hcap, hcm⟩ := HL.form
  obtain ⟨a2, cap2, rfl, hcap2, hcm2⟩ := HM.form
  have hsmL := HL.sm
  have hsmM := HM.sm
  clear HT HL HM
  by_cases hbig : 60 < L.length ∨ 60 < M.length
  · by_cases hb1 : 60 < L.length
    · have q1 : ((L.length : Nat) : Int) > 60 := by omega
      go_enter Tryd.func11, Tryd.ntmps11
      go_wp2_with fail
      refine AL.out.mono ?_
      rintro r w1 ⟨rfl, g1⟩
      go_wp2
      go_ret
      exact ⟨rfl, g1⟩
    · have q1 : ¬ ((L.length : Nat) : Int) > 60 := by omega
      have q2 : ((M.length : Nat) : Int) > 60 := by omega
      go_enter Tryd.func11, Tryd.ntmps11
      go_wp2_with fail
      refine AL.out.mono ?_
      rintro r w1 ⟨rfl, g1⟩
      go_wp2
      go_ret
      exact ⟨rfl, g1⟩
  have q1 : ¬ ((L.length : Nat) : Int) > 60 := by omega
  have q2 : ¬ ((M.length : Nat) : Int) > 60 := by omega
  have hL60 : L.length ≤ 60 := by omega
  have hM60 : M.length ≤ 60 := by omega
  obtain ⟨i0, hi0, hz0, hz1, hz2⟩ := byte_info
  have I0 := Lib.hid hi0
  have I1 := Lib.hid hz0
  have I2 := Lib.hid hz1
  have I3 := Lib.hid hz2
  obtain ⟨j0, hj0, hy0, hy1, hy2⟩ := entry_info
  have J0 := Lib.hid hj0
  have J1 := Lib.hid hy0
  have J2 := Lib.hid hy1
  have J3 := Lib.hid hy2
  have CWL := Lib.hid (fun (wz : World) (hg : w.grownBy wz none) => wwrite (HL0.out.grown hg) (HT0.out.kept hg) (by omega))
  have CWM := Lib.hid (fun (wz : World) (hg : w.grownBy wz none) => wwrite (HM0.out.grown hg) (HT0.out.kept hg) (by omega))
  have HSM := Lib.hid (show ∀ e ∈ L ++ M, smC e.call from fun e he => by
    rcases List.mem_append.1 he with h | h
    · exact hsmL e h
    · exact hsmM e h)
  have HALL : Hid ((L ++ M).all okE = (L.all okE && M.all okE)) := Lib.hid (by simp)
  clear hi0 hz0 hz1 hz2 hj0 hy0 hy1 hy2 hbig hsmL hsmM
  go_enter Tryd.func11, Tryd.ntmps11
  go_wp2_with fail
  refine AL.out.mono ?_
  rintro r w1 ⟨rfl, g1⟩
  have G1 := Lib.hid g1
  clear g1 AL
  go_wp2_with fail
  refine (CWL.out _ G1.out).mono ?_
  rintro r w2 ⟨g2, v2, rfl, hb2⟩
  have G2 := Lib.hid (G1.out.trans g2)
  have HB2 := Lib.hid hb2
  clear g2 hb2 CWL
  obtain ⟨x1, x2, hx⟩ : ∃ x1 x2, wrV L v2 = .tuple #[x1, .int .i64 x2] := by
    unfold wrV; split
    · exact ⟨_, _, rfl⟩
    · exact ⟨_, _, rfl⟩
  rw [hx]
  have HX := Lib.hid hx
  clear hx
  go_wp2_with fail
  refine (CWM.out _ G2.out).mono ?_
  rintro r w3 ⟨g3, v3, rfl, hb3⟩
  have G3 := Lib.hid (G2.out.trans g3)
  have G23 := Lib.hid g3
  have HB3 := Lib.hid hb3
  clear g3 hb3 CWM
  obtain ⟨y1, y2, hy⟩ : ∃ y1 y2, wrV M v3 = .tuple #[y1, .int .i64 y2] := by
    unfold wrV; split
    · exact ⟨_, _, rfl⟩
    · exact ⟨_, _, rfl⟩
  rw [hy]
  have HY := Lib.hid hy
  clear hy
  -- both rows of entries, one behind the other
  have kA := World.grownBy_alloc w3 (.cells #[] 55) none
  have hE0 := lit_erow w3 w3.heap.size (Nat.le_refl _)
  have HE0 := Lib.hid hE0
  have hown0 : (w3.alloc (.cells #[] 55)).ownsRow w3.heap.size 55 9 (.slice (some ⟨w3.heap.size, 0, none⟩) 0 0) 0 [] := hE0
  have HOW := Lib.hid hown0
  have sr := ((HL0.out.grown (G3.out.trans kA)).srcA)
  have hbase1 : w3.heap.size ≤ (w3.alloc (.cells #[] 55)).heap.size := kA.size
  have HKA := Lib.hid kA
  clear hE0 hown0 kA
  go_wp2_with (first
  | (
  at_builtin
  refine wpList_append_src _ rfl _ _ 48 rfl w3.heap.size 55 j0 zE.val 9 72 Tryd.underlying48 J0.out J1.out J2.out J3.out rfl (by decide) (.slice (some ⟨w3.heap.size, 0, none⟩) 0 0) 0 [] rfl HOW.out _ L.length (ens L) rfl sr (by unfold maxLen; omega) (by omega) hbase1 ?_
  intro v4 w4 hown4 hg4 hnil4 hat4
  have R4 := Lib.hid (show ERow w4 w3.heap.size v4 L by have := src_putE (L := []) (M := L) (by simpa [ens] using hown4); simpa using this)
  have K4 := Lib.hid (grow_ownE HKA.out HE0.out (Nat.le_refl _) hg4)
  have hnn4 : v4 ≠ .slice none 0 0 := fun h => by have := (hnil4.1 h).1; cases this
  have hown5 : w4.ownsRow w3.heap.size 55 9 v4 L.length (ens L) := R4.out
  have sr2 := ((HM0.out.grown (G3.out.trans K4.out)).srcA)
  have hbase2 : w3.heap.size ≤ w4.heap.size := K4.out.size
  clear hown4 hg4 hnil4 hat4 sr hbase1
  )
  | (
  at_builtin
  refine wpList_append_src _ rfl _ _ 48 rfl w3.heap.size 55 j0 zE.val 9 72 Tryd.underlying48 J0.out J1.out J2.out J3.out rfl (by decide) v4 L.length (ens L) rfl hown5 _ M.length (ens M) rfl sr2 (by unfold maxLen; omega) (by omega) hbase2 ?_
  intro v5 w5 hown6 hg6 hnil6 hat6
  have R5 := Lib.hid (src_putE hown6)
  have K5 := Lib.hid (grow_ownE K4.out R4.out (Nat.le_refl _) hg6)
  clear hown6 hg6 hnil6 hat6 sr2 hbase2 hown5
  ))
  have G5 := Lib.hid (G3.out.trans K5.out)
  have CWB := Lib.hid (wwrite (R5.out.reads HSM.out) (HT0.out.kept G5.out) (by rw [List.length_append]; omega))
  refine CWB.out.mono ?_
  rintro r w6 ⟨g6, v6, rfl, hb6⟩
  have G6 := Lib.hid (G5.out.trans g6)
  have K6 := Lib.hid (K5.out.trans g6)
  have HB6 := Lib.hid hb6
  clear g6 hb6 CWB
  by_cases hok : (L.all okE && M.all okE) = true
  · rw [Bool.and_eq_true] at hok
    have ho3 : (L ++ M).all okE = true := by rw [HALL.out, hok.1, hok.2]; rfl
    have hx := HX.out
    have hy := HY.out
    rw [wrV_yes hok.1] at hx
    rw [wrV_yes hok.2] at hy
    injection hx with hx; injection hx with hx; injection hx with hx1 hx; injection hx with hx2 _; injection hx2 with _ hx2
    injection hy with hy; injection hy with hy; injection hy with hy1 hy; injection hy with hy2 _; injection hy2 with _ hy2
    subst hx1 hx2 hy1 hy2
    rw [wrV_yes ho3]
    have hb2 := HB2.out hok.1
    have hb3 := HB3.out hok.2
    have hb6 := HB6.out ho3
    have HOKL : Hid (okL (L ++ M)) := Lib.hid (fun e he => ⟨List.all_eq_true.1 ho3 e he, HSM.out e he⟩)
    have hiL : isB (wrB L) := wrB_isB (fun e he => List.all_eq_true.1 hok.1 e he)
    have hiM : isB (wrB M) := wrB_isB (fun e he => List.all_eq_true.1 hok.2 e he)
    have hiB : isB (wrB (L ++ M)) := wrB_isB (fun e he => List.all_eq_true.1 ho3 e he)
    have HP2 := Lib.hid ((hb2.grown (G23.out.trans K6.out)).reads hiL)
    have HP3 := Lib.hid ((hb3.grown K6.out).reads hiM)
    have HP6 := Lib.hid (hb6.reads hiB)
    have hwl := wrB_len L (fun e he => List.all_eq_true.1 hok.1 e he)
    have hwm := wrB_len M (fun e he => List.all_eq_true.1 hok.2 e he)
    obtain ⟨l2, c2, rfl, _, _⟩ := HP2.out.form
    obtain ⟨l3, c3, rfl, _, _⟩ := HP3.out.form
    obtain ⟨l6, c6, rfl, hc6, hc6m⟩ := HP6.out.form
    have HIB := Lib.hid hiB
    have HAPP := Lib.hid (wrB_app L M)
    clear hb2 hb3 hb6 HX HY HB2 HB3 HB6 hiL hiM hiB
    -- both rows of bytes, one behind the other
    have kB := World.grownBy_alloc w6 (.cells #[] 5) none
    have HB0 := Lib.hid (lit_brow w6 w6.heap.size (Nat.le_refl _))
    have sr := ((HP2.out.grown kB).srcA)
    have hbase1 : w6.heap.size ≤ (w6.alloc (.cells #[] 5)).heap.size := kB.size
    have hown0 : (w6.alloc (.cells #[] 5)).ownsRow w6.heap.size 5 1 (.slice (some ⟨w6.heap.size, 0, none⟩) 0 0) 0 [] := HB0.out
    have HOWB := Lib.hid hown0
    have HKB := Lib.hid kB
    clear kB hown0
    go_wp2_with (first
    | (
    at_builtin
    refine wpList_append_src _ rfl _ _ 38 rfl w6.heap.size 5 i0 (.int .u8 0) 1 1 Tryd.underlying38 I0.out I1.out I2.out I3.out rfl (by decide) (.slice (some ⟨w6.heap.size, 0, none⟩) 0 0) 0 [] rfl HOWB.out _ (wrB L).length (bys (wrB L)) rfl sr (by unfold maxLen; omega) (by omega) hbase1 ?_
    intro v7 w7 hown7 hg7 hnil7 hat7
    have R7 := Lib.hid (show BRow w7 w6.heap.size v7 (wrB L) by have := src_put (F := []) (G := wrB L) (by simpa [bys] using hown7); simpa using this)
    have K7 := Lib.hid (grow_own HKB.out HB0.out (Nat.le_refl _) hg7)
    have hown8 : w7.ownsRow w6.heap.size 5 1 v7 (wrB L).length (bys (wrB L)) := R7.out
    have sr2 := ((HP3.out.grown K7.out).srcA)
    have hbase2 : w6.heap.size ≤ w7.heap.size := K7.out.size
    clear hown7 hg7 hnil7 hat7 sr hbase1
    )
    | (
    at_builtin
    refine wpList_append_src _ rfl _ _ 38 rfl w6.heap.size 5 i0 (.int .u8 0) 1 1 Tryd.underlying38 I0.out I1.out I2.out I3.out rfl (by decide) v7 (wrB L).length (bys (wrB L)) rfl hown8 _ (wrB M).length (bys (wrB M)) rfl sr2 (by unfold maxLen; omega) (by omega) hbase2 ?_
    intro v8 w8 hown9 hg9 hnil9 hat9
    have R8 := Lib.hid (src_put hown9)
    have K8 := Lib.hid (grow_own K7.out R7.out (Nat.le_refl _) hg9)
    clear hown9 hg9 hnil9 hat9 sr2 hbase2 hown8
    ))
    have HW7 := Lib.hid R8.out
    have G8 := Lib.hid (G6.out.trans K8.out)
    have HB8 : Hid (ReadsB w8 v8 (wrB (L ++ M))) := Lib.hid (by rw [HAPP.out]; exact R8.out.reads (by rw [← HAPP.out]; exact HIB.out))
    have hll : (wrB (L ++ M)).length ≤ 3360 := by rw [HAPP.out, List.length_append]; omega
    have CR := wread HB8.out (HT0.out.kept G8.out) (by omega)
    rw [wrB_rd HOKL.out (by rw [List.length_append]; omega)] at CR
    have CR := Lib.hid CR
    refine CR.out.mono ?_
    rintro r w9 ⟨g9, v9, rfl, e9⟩
    have G9 := Lib.hid (G8.out.trans g9)
    have K9 := Lib.hid (K8.out.trans g9)
    have HE9 := Lib.hid (e9.reads' HOKL.out)
    have HP69 := Lib.hid (HP6.out.grown K9.out)
    have hf9 := e9.form
    clear g9 e9 CR
    rcases hf9 with ⟨rfl, hnil⟩ | ⟨b9, c9, rfl, _, _, hc9, hc9m⟩
    · obtain ⟨hn1, hn2⟩ := List.append_eq_nil_iff.1 hnil
      subst hn1
      subst hn2
      have hw0 : wrB ([] : List En) = [] := rfl
      simp only [List.append_nil, List.length_nil, hw0] at *
      go_wp2
      go_loopw [13, 14] (fun nv av wr => nv = .int .i64 0 ∧ av = .int .i64 0 ∧ wr = w9) (fun _ _ _ => 0)
      case atStart => exact ⟨rfl, rfl, rfl⟩
      case round =>
        obtain ⟨rfl, rfl, rfl⟩ := hrel
        have kB := World.grownBy_alloc wr (.cells #[] 5) none
        have HB10 := Lib.hid (lit_brow wr wr.heap.size (Nat.le_refl _))
        have sr := (((HP2.out.grown K9.out).grown kB).srcA)
        have hbase1 : wr.heap.size ≤ (wr.alloc (.cells #[] 5)).heap.size := kB.size
        have hown0 : (wr.alloc (.cells #[] 5)).ownsRow wr.heap.size 5 1 (.slice (some ⟨wr.heap.size, 0, none⟩) 0 0) 0 [] := HB10.out
        have HOWB1 := Lib.hid hown0
        have HKB1 := Lib.hid kB
        clear kB hown0
        go_wp2_with (first
        | (
        at_builtin
        refine wpList_append_src _ rfl _ _ 38 rfl wr.heap.size 5 i0 (.int .u8 0) 1 1 Tryd.underlying38 I0.out I1.out I2.out I3.out rfl (by decide) (.slice (some ⟨wr.heap.size, 0, none⟩) 0 0) 0 [] rfl HOWB1.out _ 0 [] rfl sr (by unfold maxLen; omega) (by omega) hbase1 ?_
        intro v17 w17 hown17 hg17 hnil17 hat17
        have R17 := Lib.hid (show BRow w17 wr.heap.size v17 [] by have := src_put (F := []) (G := []) hown17; simpa using this)
        have K17 := Lib.hid (grow_own HKB1.out HB10.out (Nat.le_refl _) hg17)
        have hown18 : w17.ownsRow wr.heap.size 5 1 v17 0 [] := R17.out
        have sr2 := (((HP3.out.grown K9.out).grown K17.out).srcA)
        have hbase2 : wr.heap.size ≤ w17.heap.size := K17.out.size
        clear hown17 hg17 hnil17 hat17 sr hbase1
        )
        | (
        at_builtin
        refine wpList_append_src _ rfl _ _ 38 rfl wr.heap.size 5 i0 (.int .u8 0) 1 1 Tryd.underlying38 I0.out I1.out I2.out I3.out rfl (by decide) v17 0 [] rfl hown18 _ 0 [] rfl sr2 (by unfold maxLen; omega) (by omega) hbase2 ?_
        intro v18 w18 hown19 hg19 hnil19 hat19
        have R18 := Lib.hid (show BRow w18 wr.heap.size v18 [] by have := src_put (F := []) (G := []) hown19; simpa using this)
        have K18 := Lib.hid (grow_own K17.out R17.out (Nat.le_refl _) hg19)
        clear hown19 hg19 hnil19 hat19 sr2 hbase2 hown18
        ))
        have G18 := Lib.hid (G9.out.trans K18.out)
        have SB := rsameB (HP69.out.grown K18.out) (R18.out.reads (fun x hx => absurd hx (by simp)))
        simp only [decide_true] at SB
        have SB := Lib.hid SB
        refine SB.out.mono ?_
        rintro r w19 ⟨rfl, rfl⟩
        have hn0 : ∀ wz : World, ReadsE wz (.slice none 0 0) [] := fun wz => ⟨none, 0, rfl, Nat.le_refl _, by decide, fun x hx => absurd hx (by simp), fun h => absurd h (by simp)⟩
        have S1 := Lib.hid (rsameE (hn0 w18) (HL0.out.grown G18.out))
        have HN0 := Lib.hid hn0
        clear hn0 SB
        go_wp2_with fail
        refine S1.out.mono ?_
        rintro r w20 ⟨rfl, g20⟩
        have G20 := Lib.hid (G18.out.trans g20)
        have S3 := Lib.hid (rsameE (HN0.out w20) (HM0.out.grown G20.out))
        clear g20
        go_wp2_with fail
        refine S3.out.mono ?_
        rintro r w21 ⟨rfl, g21⟩
        have G21 := Lib.hid (G20.out.trans g21)
        clear g21
        go_wp2
        go_ret
        exact ⟨by simp, G21.out⟩
    have hZ : (L ++ M).length = L.length + M.length := List.length_append
    obtain ⟨Z, hZZ⟩ : ∃ Z, Z = L ++ M := ⟨_, rfl⟩
    have HZ := Lib.hid hZZ
    rw [← hZZ] at HE9 HP69 hZ hll hc6 hc9 HOKL HIB ⊢
    clear hZZ
    go_wp2
    go_loopw [13, 14] (fun nv av wr => ∃ j : Nat, j ≤ Z.length ∧ nv = .int .i64 (j : Int) ∧ av = .int .i64 (((wrB (Z.take j)).length : Nat) : Int) ∧ wr = w9) (fun nv _ _ => Z.length - (RowKit.intOf nv).toNat)
    case atStart => exact ⟨0, Nat.zero_le _, rfl, rfl, rfl⟩
    case round =>
      obtain ⟨j, hj, rfl, rfl, rfl⟩ := hrel
      by_cases hlt : j < Z.length
      · obtain ⟨hpos, hat⟩ := wrB_head Z j hlt
        have hnx := wrB_next Z j hlt
        obtain ⟨b6, o6, rfl, _, _, _, hb6w, hcell⟩ := HP69.out.at (by omega)
        have hc := hcell _ hpos
        rw [hat] at hc
        have hek := eb_len ((HOKL.out _ (List.getElem_mem hlt)).1)
        have HNX := Lib.hid hnx
        generalize (wrB (Z.take j)).length = at0 at *
        generalize (eb Z[j]).length = ek at *
        have hw := (show IntKind.i64.wrap ((ek : Nat) : Int) = ((ek : Nat) : Int) by rw [IntKind.wrap_i64]; omega)
        have p1 : ((at0 : Nat) : Int) < (((wrB Z).length : Nat) : Int) := by omega
        have p0 : ¬ ((at0 : Nat) : Int) < 0 := by omega
        clear hcell hat hnx hpos
        go_wp2
        go_roundw
        case rel => exact ⟨j + 1, by omega, by go_num, by rw [HNX.out]; push_cast; rfl, trivial⟩
        case measure => simp [RowKit.intOf]; omega
      · obtain rfl : j = Z.length := by omega
        rw [List.take_length]
        have kB := World.grownBy_alloc wr (.cells #[] 5) none
        have HB10 := Lib.hid (lit_brow wr wr.heap.size (Nat.le_refl _))
        have sr := (((HP2.out.grown K9.out).grown kB).srcA)
        have hbase1 : wr.heap.size ≤ (wr.alloc (.cells #[] 5)).heap.size := kB.size
        have hown0 : (wr.alloc (.cells #[] 5)).ownsRow wr.heap.size 5 1 (.slice (some ⟨wr.heap.size, 0, none⟩) 0 0) 0 [] := HB10.out
        have HOWB1 := Lib.hid hown0
        have HKB1 := Lib.hid kB
        clear kB hown0
        go_wp2_with (first
        | (
        at_builtin
        refine wpList_append_src _ rfl _ _ 38 rfl wr.heap.size 5 i0 (.int .u8 0) 1 1 Tryd.underlying38 I0.out I1.out I2.out I3.out rfl (by decide) (.slice (some ⟨wr.heap.size, 0, none⟩) 0 0) 0 [] rfl HOWB1.out _ (wrB L).length (bys (wrB L)) rfl sr (by unfold maxLen; omega) (by omega) hbase1 ?_
        intro v17 w17 hown17 hg17 hnil17 hat17
        have R17 := Lib.hid (show BRow w17 wr.heap.size v17 (wrB L) by have := src_put (F := []) (G := wrB L) (by simpa [bys] using hown17); simpa using this)
        have K17 := Lib.hid (grow_own HKB1.out HB10.out (Nat.le_refl _) hg17)
        have hown18 : w17.ownsRow wr.heap.size 5 1 v17 (wrB L).length (bys (wrB L)) := R17.out
        have sr2 := (((HP3.out.grown K9.out).grown K17.out).srcA)
        have hbase2 : wr.heap.size ≤ w17.heap.size := K17.out.size
        clear hown17 hg17 hnil17 hat17 sr hbase1
        )
        | (
        at_builtin
        refine wpList_append_src _ rfl _ _ 38 rfl wr.heap.size 5 i0 (.int .u8 0) 1 1 Tryd.underlying38 I0.out I1.out I2.out I3.out rfl (by decide) v17 (wrB L).length (bys (wrB L)) rfl hown18 _ (wrB M).length (bys (wrB M)) rfl sr2 (by unfold maxLen; omega) (by omega) hbase2 ?_
        intro v18 w18 hown19 hg19 hnil19 hat19
        have R18 := Lib.hid (src_put hown19)
        have K18 := Lib.hid (grow_own K17.out R17.out (Nat.le_refl _) hg19)
        clear hown19 hg19 hnil19 hat19 sr2 hbase2 hown18
        ))
        have G18 := Lib.hid (G9.out.trans K18.out)
        have HB18 : Hid (ReadsB w18 v18 (wrB Z)) := Lib.hid (by rw [HZ.out, HAPP.out]; exact R18.out.reads (by rw [← HAPP.out, ← HZ.out]; exact HIB.out))
        have SB := rsameB (HP69.out.grown K18.out) HB18.out
        simp only [decide_true] at SB
        have SB := Lib.hid SB
        refine SB.out.mono ?_
        rintro r w19 ⟨rfl, rfl⟩
        have HE18 := Lib.hid (HE9.out.grown K18.out)
        have t1 := reads_takeE (n := L.length) HE18.out (by omega)
        rw [show Z.take L.length = L by rw [HZ.out, List.take_left]] at t1
        have HA18 := Lib.hid (HL0.out.grown G18.out)
        have HM18 := Lib.hid (HM0.out.grown G18.out)
        have S1 := Lib.hid (rsameE t1 HA18.out)
        have hd : Hid (Z.drop L.length = M) := Lib.hid (by rw [HZ.out, List.drop_left])
        have p1 : ((L.length : Nat) : Int) ≤ ((c9 : Nat) : Int) := by omega
        have p2 : ((L.length : Nat) : Int) ≤ ((Z.length : Nat) : Int) := by omega
        have p0 : ¬ ((L.length : Nat) : Int) < 0 := by omega
        have pz : ((Z.length : Nat) : Int) = ((L.length : Nat) : Int) + ((M.length : Nat) : Int) := by omega
        have HPZ := Lib.hid pz
        have hzm : Z.length - L.length = M.length := by omega
        have HZM := Lib.hid hzm
        have HZL := Lib.hid hZ
        clear t1 SB pz hzm
        have HCL : Hid (∀ (q : Option Addr) (c' : Nat), c' = c9 - L.length → (0 < M.length → q = some ⟨b9, L.length * 9, none⟩) → ReadsE w18 (.slice q M.length c') (Z.drop L.length)) := Lib.hid (fun q c' hc' hq => reads_dropE HE18.out (by omega) (by have := HZL.out; omega) hc' (fun h => by rw [Nat.zero_add]; exact hq h))
        by_cases hcl : c9 = L.length
        · have hM0 : ¬ 0 < M.length := by have := HZL.out; omega
          have S2 := HCL.out (some ⟨b9, 0, none⟩) 0 (by omega) (fun h => absurd h hM0)
          have S2 := Lib.hid S2
          subst hcl
          clear hM0
          go_wp2_with fail
          refine S1.out.mono ?_
          rintro r w20 ⟨rfl, g20⟩
          have G20 := Lib.hid (G18.out.trans g20)
          have S3 := rsameE (S2.out.grown g20) (by rw [hd.out]; exact HM18.out.grown g20)
          have S3 := Lib.hid S3
          clear g20
          go_wp2_with fail
          refine S3.out.mono ?_
          rintro r w21 ⟨rfl, g21⟩
          have G21 := Lib.hid (G20.out.trans g21)
          clear g21
          go_wp2
          go_ret
          exact ⟨by simp, G21.out⟩
        · have S2 := HCL.out (some ⟨b9, L.length * 9, none⟩) (c9 - L.length) rfl (fun _ => rfl)
          have S2 := Lib.hid S2
          go_wp2_with fail
          refine S1.out.mono ?_
          rintro r w20 ⟨rfl, g20⟩
          have G20 := Lib.hid (G18.out.trans g20)
          have S3 := rsameE (S2.out.grown g20) (by rw [hd.out]; exact HM18.out.grown g20)
          have S3 := Lib.hid S3
          clear g20
          go_wp2_with fail
          refine S3.out.mono ?_
          rintro r w21 ⟨rfl, g21⟩
          have G21 := Lib.hid (G20.out.trans g21)
          clear g21
          go_wp2
          go_ret
          exact ⟨by simp, G21.out⟩
  · have hokf : (L ++ M).all okE = false := by rw [HALL.out]; simpa using hok
    rw [wrV_no hokf]
    have HOF := Lib.hid hokf
    have hxy : (decide (x2 = 0) && decide (y2 = 0)) = false := by
      have hx := HX.out
      have hy := HY.out
      by_cases h1 : L.all okE = true
      · have h2 : M.all okE = false := by simpa [h1] using hok
        rw [wrV_no h2] at hy
        injection hy with hy; injection hy with hy; injection hy with _ hy; injection hy with hy _; injection hy with _ hy
        subst hy
        simp
      · have h1 : L.all okE = false := by simpa using h1
        rw [wrV_no h1] at hx
        injection hx with hx; injection hx with hx; injection hx with _ hx; injection hx with hx _; injection hx with _ hx
        subst hx
        simp
    have hcases : (x2 == 0) = false ∨ (x2 = 0 ∧ (y2 == 0) = false) := by
      by_cases h : x2 = 0
      · exact Or.inr ⟨h, by simpa [h] using hxy⟩
      · exact Or.inl (by simpa using h)
    clear hxy hokf hok
    rcases hcases with h1 | ⟨rfl, h1⟩
    · go_wp2
      go_ret
      exact ⟨by simp, G6.out⟩
    · go_wp2
      go_ret
      exact ⟨by simp, G6.out⟩
end Go.Proofs.YtcnojgkolpdomaaDoor
