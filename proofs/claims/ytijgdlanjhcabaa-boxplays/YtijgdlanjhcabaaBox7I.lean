/-
  Contracts of package box (things of type int), over this seat's translation: Sift.
-/
import Derived.Test.YtijgdlanjhcabaaBox6I
namespace Go.Proofs.Ytijgdlanjhcabaa.BI
open Go.RowKit Go.Lib Go.Conc
set_option maxRecDepth 100000
set_option linter.unusedVariables false

section
variable {w w' : World} {bb c cap : Nat} {L : List (Nat × Vt)} {M : Nat → Bool}

set_option maxRecDepth 100000 in
set_option maxHeartbeats 8000000 in
theorem sift_does (want : Int → Bool) (ob : Nat) (a0 : Array Value) (t0 : TypeId) (ht0 : t0 ≠ 78)
    (hw : ∀ (w : World) (z : Int), w.heap[ob]? = some (.cells a0 t0 (0, 0)) → Calls Try.prog 30 #[.int .i64 z, .pointer (some ⟨ob, 0, none⟩)] w fun e w' => e = .returned (.bool (want z)) ∧ w = w')
    (H : Bx w bb c cap L) (hob : w.heap[ob]? = some (.cells a0 t0 (0, 0))) :
    Calls Try.prog 21 #[.pointer (some ⟨bb, 0, none⟩), .func (.func 30) #[] #[.pointer (some ⟨ob, 0, none⟩)]] w fun e w' => e = .returned (.int .i64 (L.length - (L.filter fun x => want x.2).length : Nat)) ∧ Bx w' bb c cap (L.filter fun x => want x.2) ∧ OnlyB (fun k => k = c ∨ ∃ x ∈ L, k = x.1) w w' := by
  have CT := Lib.hid (things_any H)
  have hle : L.length ≤ 4096 := by have := H.le; omega
  obtain ⟨i0, hi0, hi1, hi2, hi3⟩ := ptr_info
  have I0 := Lib.hid hi0
  have I1 := Lib.hid hi1
  have I2 := Lib.hid hi2
  have I3 := Lib.hid hi3
  have HW := Lib.hid hw
  have HO0 := Lib.hid hob
  have hobc : Hid (ob ≠ c) := Lib.hid (by
    rintro rfl
    obtain ⟨s, r, h⟩ := H.ch
    rw [h] at hob
    cases hob)
  have hobx : Hid (∀ x ∈ L, ob ≠ x.1) := Lib.hid (by
    rintro x hx rfl
    rw [H.th x hx] at hob
    injection hob with hob
    injection hob with _ hob
    exact ht0 hob.symm)
  clear H hi0 hi1 hi2 hi3 hw hob
  go_enter Try.func21, Try.ntmps21
  go_wp2_with fail
  refine CT.out.mono ?_
  rintro e w1 ⟨⟨v, rfl, h1⟩, h2, h3⟩
  obtain ⟨sa, cp, rfl, hf, hg⟩ := own_at h1
  have PR := Lib.hid h1
  have HB := Lib.hid h2
  have HO := Lib.hid (OnlyB.of_only (P := fun k => k = c ∨ ∃ x ∈ L, k = x.1) h3 (Or.inl rfl))
  have OB := Lib.hid ((h3.block ob (blk_lt HO0.out) (by have := hobc.out; omega)).trans HO0.out)
  have HG := Lib.hid hg
  have hw1 : Hid (w.heap.size ≤ w1.heap.size) := Lib.hid h3.size
  clear h1 h2 h3 CT hf hg HO0
  go_wp2_with fail
  go_loopw [5, 13] (fun s it wr => ∃ (i : Nat), i ≤ L.length ∧ it = .int .i64 i ∧ Hid (wr.ownsRow w1.heap.size 76 1 s ((L.take i).filter fun x => !want x.2).length (ptrs ((L.take i).filter fun x => !want x.2))) ∧ Hid (wr.ownsRow (w.heap.size + 1) 76 1 (.slice sa L.length cp) L.length (ptrs L)) ∧ Hid (Bx wr bb c cap L) ∧ Hid (OnlyB (fun k => k = c ∨ ∃ x ∈ L, k = x.1) w wr) ∧ Hid (wr.heap[ob]? = some (.cells a0 t0 (0, 0))) ∧ Hid (w1.heap.size ≤ wr.heap.size)) (fun s it _ => L.length - (Go.RowKit.intOf it).toNat)
  case atStart => exact ⟨0, Nat.zero_le _, rfl, Lib.hid (World.ownsRow_nil ..), PR, HB, HO, OB, Lib.hid (Nat.le_refl _)⟩
  case round =>
    have hpl : Hid (∀ g, (Value.slice sa L.length cp).ownBlock = some g → g < w1.heap.size) := Lib.hid fun g hg => (PR.out.lt g hg).2
    have hol : Hid (ob < w1.heap.size) := Lib.hid (blk_lt OB.out)
    clear PR HB HO OB
    obtain ⟨i, hi, rfl, UR, PR, HB, HO, OB, HZ⟩ := hrel
    by_cases hlt : i < L.length
    · have qi : (i : Int) < (L.length : Int) := by omega
      obtain ⟨g, hsa, hgb⟩ := HG.out (by omega)
      subst hsa
      have c1 : wr.cell? ⟨g, i, none⟩ = some (.pointer (some ⟨L[i].1, 0, none⟩)) := own_cell PR.out (u := ptr L[i].1) (by unfold ptrs; rw [List.getElem?_map, List.getElem?_eq_getElem hlt]; rfl) hgb
      have hth := HB.out.th L[i] (List.getElem_mem hlt)
      have c2 := cell_blk hth 0
      simp only [cellsOf, List.getElem?_toArray, List.getElem?_cons_zero] at c2
      have CW := Lib.hid (HW.out wr L[i].2 OB.out)
      have hps := ptrs_filter_succ (fun x => !want x.2) hlt
      have hfs := congrArg List.length hps
      rw [List.length_append, ptrs_length, ptrs_length] at hfs
      clear hth
      try simp only at hps
      try simp only at hfs
      generalize L[i].1 = q at *
      generalize L[i].2 = z at *
      generalize hm : ((L.take i).filter fun x => !want x.2).length = m at *
      generalize hm' : ((L.take (i + 1)).filter fun x => !want x.2).length = m' at *
      have hmb : m ≤ 4096 := by rw [← hm]; have := List.length_filter_le (fun x : Nat × Vt => !want x.2) (L.take i); simp at this; omega
      have HM := Lib.hid hm
      have HM' := Lib.hid hm'
      generalize hX : ptrs ((L.take i).filter fun x => !want x.2) = X at *
      clear hm hm' hX
      go_wp2_with fail
      refine CW.out.mono ?_
      rintro e w3 ⟨rfl, rfl⟩
      clear CW
      cases hwz : want z
      · simp only [hwz, Bool.not_false, if_true, List.length_singleton] at hps hfs
        subst hfs
        have HPS := Lib.hid hps
        clear hps hwz
        have ka := World.grownBy_alloc wr (.cells #[ptr q] 76) none
        have SR := Lib.hid (src_one wr (ptr q) 76 rfl)
        have U2 := Lib.hid (UR.out.alloc (.cells #[ptr q] 76))
        have P2 := Lib.hid (PR.out.alloc (.cells #[ptr q] 76))
        have B2 := Lib.hid (HB.out.kept ka)
        have O2 := Lib.hid (HO.out.trans (OnlyB.of_none ka))
        have OB2 := Lib.hid ((ka.block ob (blk_lt OB.out) (by simp)).trans OB.out)
        have hbase : Hid (w1.heap.size ≤ (wr.alloc (.cells #[ptr q] 76)).heap.size) := Lib.hid (Nat.le_trans HZ.out ka.size)
        obtain ⟨sv, cv, hsv, _, _⟩ := own_at UR.out
        subst hsv
        clear UR PR HB HO OB HZ ka hgb
        unfold ptr at *
        go_wp2_with (
          at_builtin
          refine wpList_append_src _ rfl _ _ 74 rfl w1.heap.size 76 i0 (.pointer none) 1 8 Try.underlying74 I0.out I1.out I2.out I3.out rfl (by decide) _ _ _ rfl U2.out _ 1 _ rfl SR.out (by unfold maxLen; omega) (by omega) hbase.out ?_
          intro v' w5 hown' hgrow hnil hat
          have hgr : Hid ((wr.alloc (.cells #[.pointer (some ⟨q, 0, none⟩)] 76)).grownBy w5 (Value.slice sv m cv).ownBlock) := Lib.hid hgrow
          have U3 := Lib.hid hown'
          clear hgrow hnil hat hown')
        go_wp2
        go_roundw
        case rel =>
          refine ⟨i + 1, hlt, by go_num, Lib.hid (by rw [HM'.out, HPS.out]; exact U3.out), Lib.hid (P2.out.kept hgr.out ?_), Lib.hid (B2.out.byRow U2.out (by decide) (by decide) hgr.out), Lib.hid ?_, Lib.hid ?_, Lib.hid (Nat.le_trans hbase.out hgr.out.size)⟩
          · refine Or.inr fun e => ?_
            have h1 := hpl.out g rfl
            have h2 := (U2.out.lt g e.symm).1
            omega
          · refine ⟨hgr.out.os.trans O2.out.os, hgr.out.tape.trans O2.out.tape, hgr.out.output.trans O2.out.output, Nat.le_trans O2.out.size hgr.out.size, fun k hk hr => (hgr.out.block k (Nat.lt_of_lt_of_le hk O2.out.size) (fun e => ?_)).trans (O2.out.block k hk hr)⟩
            have h1 := (U2.out.lt k e.symm).1
            have h2 := hw1.out
            omega
          · refine (hgr.out.block ob (by have := hbase.out; have := hol.out; omega) (fun e => ?_)).trans OB2.out
            have h1 := (U2.out.lt ob e.symm).1
            have h2 := hol.out
            omega
        case measure => simp [Go.RowKit.intOf]; omega
      · simp only [hwz, Bool.not_true, Bool.false_eq_true, if_false, List.length_nil, Nat.add_zero, List.append_nil] at hps hfs
        subst hfs
        have HPS := Lib.hid hps
        clear hps hwz
        go_wp2
        go_roundw
        case rel => exact ⟨i + 1, hlt, by go_num, Lib.hid (by rw [HM'.out, HPS.out]; exact UR.out), PR, HB, HO, OB, HZ⟩
        case measure => simp [Go.RowKit.intOf]; omega
    · obtain rfl : i = L.length := by omega
      rw [List.take_length] at UR
      clear HG
      obtain ⟨U, hU⟩ : ∃ U, (L.filter fun x => !want x.2) = U := ⟨_, rfl⟩
      have HU := Lib.hid hU
      rw [hU] at UR
      have hUl : U.length ≤ 4096 := by rw [← hU]; have := List.length_filter_le (fun x : Nat × Vt => !want x.2) L; omega
      obtain ⟨su, cu, rfl, _, hug⟩ := own_at UR.out
      have UG := Lib.hid hug
      clear hU hug PR HZ OB
      go_wp2_with fail
      go_loopw [31] (fun it wr => ∃ (j : Nat), j ≤ U.length ∧ it = .int .i64 j ∧ Hid (wr.ownsRow w1.heap.size 76 1 (.slice su U.length cu) U.length (ptrs U)) ∧ Hid (BxM wr bb c cap L (fun k => decide (k ∈ (U.take j).map Prod.fst))) ∧ Hid (OnlyB (fun k => k = c ∨ ∃ x ∈ L, k = x.1) w wr)) (fun it _ => U.length - (Go.RowKit.intOf it).toNat)
      case atStart => exact ⟨0, Nat.zero_le _, rfl, UR, Lib.hid (HB.out.marks fun x _ => by simp), HO⟩
      case round =>
        clear UR HB HO
        obtain ⟨j, hj, rfl, UR, HB, HO⟩ := hrel
        by_cases hjl : j < U.length
        · have qj : (j : Int) < (U.length : Int) := by omega
          obtain ⟨g, hsa, hgb⟩ := UG.out (by omega)
          subst hsa
          have hmem : U[j] ∈ L := by
            have : U[j] ∈ (L.filter fun x => !want x.2) := by rw [HU.out]; exact List.getElem_mem hjl
            exact (List.mem_filter.1 this).1
          have c1 : wr.cell? ⟨g, j, none⟩ = some (.pointer (some ⟨U[j].1, 0, none⟩)) := own_cell UR.out (u := ptr U[j].1) (by unfold ptrs; rw [List.getElem?_map, List.getElem?_eq_getElem hjl]; rfl) hgb
          have hth := HB.out.th U[j] hmem
          have c2 := cell_blk hth 1
          have f2 := frozen_blk hth 1
          simp only [cellsOf, List.getElem?_toArray, List.getElem?_cons_succ, List.getElem?_cons_zero] at c2
          have B2 := Lib.hid (HB.out.mark hmem)
          have O2 := Lib.hid (HO.out.trans (OnlyB.set wr U[j].1 1 (.bool true) (Or.inr ⟨_, hmem, rfl⟩)))
          have U2 : Hid ((wr.setCell ⟨U[j].1, 1, none⟩ (.bool true)).ownsRow w1.heap.size 76 1 (.slice (some ⟨g, 0, none⟩) U.length cu) U.length (ptrs U)) := Lib.hid (by
            refine own_blk UR.out fun g' hg' => ?_
            have := (HB.out.row UR.out (by decide) (by decide) g' hg').2.2 _ hmem
            exact Below.heap_setCell wr ⟨U[j].1, 1, none⟩ _ g' (by show g' ≠ U[j].1; exact this))
          have hts : Hid ((U.take (j + 1)).map Prod.fst = (U.take j).map Prod.fst ++ [U[j].1]) := Lib.hid (by rw [List.take_add_one, List.map_append, List.getElem?_eq_getElem hjl]; rfl)
          clear hth UR HB HO hmem hgb
          generalize decide (U[j].1 ∈ (U.take j).map Prod.fst) = mo at *
          generalize U[j].1 = q at *
          go_wp2
          go_roundw
          case rel =>
            refine ⟨j + 1, hjl, by go_num, U2, Lib.hid (B2.out.marks fun x _ => ?_), O2⟩
            rw [hts.out]
            simp only [List.mem_append, List.mem_singleton, Bool.decide_or]
            rw [Bool.or_comm]
          case measure => simp [Go.RowKit.intOf]; omega
        · obtain rfl : j = U.length := by omega
          have hmk : ∀ x ∈ L, (!decide (x.1 ∈ (U.take U.length).map Prod.fst)) = want x.2 := fun x hx => by
            rw [List.take_length, ← HU.out]
            cases hz : want x.2
            · have : x.1 ∈ (L.filter fun x => !want x.2).map Prod.fst := List.mem_map.2 ⟨x, List.mem_filter.2 ⟨hx, by simp [hz]⟩, rfl⟩
              simp only [this, decide_true, Bool.not_true]
            · have : ¬ x.1 ∈ (L.filter fun x => !want x.2).map Prod.fst := fun h => by
                obtain ⟨y, hy, e⟩ := List.mem_map.1 h
                obtain ⟨hy1, hy2⟩ := List.mem_filter.1 hy
                have : y = x := inj_fst HB.out.nd hy1 hx e
                subst this
                simp [hz] at hy2
              simp only [this, decide_false, Bool.not_false]
          have CU := Lib.hid (turn_bare (fun x => !decide (x.1 ∈ (U.take U.length).map Prod.fst)) (fun _ wr' => OnlyB (fun k => k = c ∨ ∃ x ∈ L, k = x.1) w wr')
            (fun i wx l s r hJ => hJ.trans (OnlyB.of_only (only_setChan ..) (Or.inl rfl)))
            (fun i wx hi hJ HT => (sift1 L[i].1 L[i].2 _ (HT.th L[i] (List.getElem_mem hi))).mono fun e w' hh => ⟨hh.1, hh.2 ▸ hJ, fun k _ => by rw [hh.2]⟩)
            HB.out HO.out)
          have hfe : (L.filter fun x => !decide (x.1 ∈ (U.take U.length).map Prod.fst)) = L.filter fun x => want x.2 := List.filter_congr hmk
          have HMK := Lib.hid hmk
          have HFE := Lib.hid hfe
          clear hmk hfe UR HB HO UG
          go_wp2_with fail
          refine CU.out.mono ?_
          rintro e w9 ⟨rfl, h1, h2⟩
          rw [HFE.out] at h1 ⊢
          have R := Lib.hid (And.intro h1 h2)
          clear h1 h2 CU
          go_wp2
          go_ret
          refine ⟨rfl, R.out.1.marks fun x hx => ?_, R.out.2⟩
          obtain ⟨hx1, hx2⟩ := List.mem_filter.1 hx
          have := HMK.out x hx1
          rw [hx2] at this
          simpa using this
end
end Go.Proofs.Ytijgdlanjhcabaa.BI
