/-
  A poll's calls: Look, Post, Notes, Close.
-/
import Derived.Test.YtpnipmjjhiaieaaPoll2
namespace Go.Proofs.Ytpnipmjjhiaieaa
open Go.RowKit Go.Lib BN
set_option maxRecDepth 100000
set_option linter.unusedVariables false
section
variable {w w' : World} {pb gb bb c qb lo hi n cap T D f : Nat} {Mx : Int} {G : Nat → Gt} {L : List (Nat × (Int × Int))} {Q : List Nat}

theorem po_look (H : PoM w pb gb bb c qb lo hi n cap T D Mx G L f Q) (d : Nat) (hd : d < n) : Calls Try.prog 15 #[.pointer (some ⟨pb, 0, none⟩), .int .i64 d] w fun e w' => e = .returned (.tuple #[gval (G d), .bool true]) ∧ w.grownBy w' none := by
  have ka := World.grownBy_alloc w (.cells #[.bool false, .int .i64 0, .int .i64 0, .int .u64 0, .int .i64 0, .int .i64 0, .int .i64 0] 38) none
  have h0 : (w.alloc (.cells #[.bool false, .int .i64 0, .int .i64 0, .int .u64 0, .int .i64 0, .int .i64 0, .int .i64 0] 38)).heap[w.heap.size]? = some (.cells #[.bool false, .int .i64 0, .int .i64 0, .int .u64 0, .int .i64 0, .int .i64 0, .int .i64 0] 38 (0, 0)) := heap_alloc_new _ _
  have H1 := H.kept ka
  have C := Lib.hid (po_has H1 d)
  rw [show hasD n d = true by unfold hasD; simp [hd]] at C
  have CG := Lib.hid (go_look (H1.gs.gt d hd))
  obtain ⟨c0, c1, c2, c3, fz⟩ := p_cells H1
  have hn := H.nb.1
  have KA := Lib.hid ka
  clear H H1 c1 c2 c3 fz ka
  generalize hz : w.heap.size = z at *
  have HZ := Lib.hid hz
  clear hz
  go_enter Try.func15, Try.ntmps15
  go_wp2_with fail
  try rw [HZ.out]
  generalize (w.alloc (.cells #[.bool false, .int .i64 0, .int .i64 0, .int .u64 0, .int .i64 0, .int .i64 0, .int .i64 0] 38)) = wa at *
  refine C.out.mono ?_
  rintro e w1 ⟨rfl, rfl⟩
  go_wp2_with fail
  refine CG.out.mono ?_
  rintro e w2 ⟨rfl, k2⟩
  have h2 := (k2.block z (blk_lt h0) (by simp)).trans h0
  have K2 := Lib.hid (KA.out.trans k2)
  have d0 := cell_blk h2 0; have d1 := cell_blk h2 1; have d2 := cell_blk h2 2; have d3 := cell_blk h2 3; have d4 := cell_blk h2 4; have d5 := cell_blk h2 5; have d6 := cell_blk h2 6
  have f0 := frozen_blk h2 0; have f1 := frozen_blk h2 1; have f2 := frozen_blk h2 2; have f3 := frozen_blk h2 3; have f4 := frozen_blk h2 4; have f5 := frozen_blk h2 5; have f6 := frozen_blk h2 6
  simp only [List.getElem?_toArray, List.getElem?_cons_zero, List.getElem?_cons_succ] at d0 d1 d2 d3 d4 d5 d6
  have B0 := blk_setCell w2 z 0 (.bool (G d).op) _ _ h2
  have B1 := blk_setCell _ z 1 (.int .i64 (G d).rd) _ _ B0
  have B2 := blk_setCell _ z 2 (.int .i64 (G d).lt) _ _ B1
  have B3 := blk_setCell _ z 3 (.int .u64 (G d).h) _ _ B2
  have B4 := blk_setCell _ z 4 (.int .i64 (G d).wt) _ _ B3
  have B5 := blk_setCell _ z 5 (.int .i64 (G d).md) _ _ B4
  have B6 := Lib.hid (blk_setCell _ z 6 (.int .i64 (G d).td) _ _ B5)
  clear C CG k2 h2 h0 c0 B0 B1 B2 B3 B4 B5
  unfold gval
  go_wp2
  have KE : w.grownBy (((((((w2.setCell ⟨z, 0, none⟩ (.bool (G d).op)).setCell ⟨z, 1, none⟩ (.int .i64 (G d).rd)).setCell ⟨z, 2, none⟩ (.int .i64 (G d).lt)).setCell ⟨z, 3, none⟩ (.int .u64 (G d).h)).setCell ⟨z, 4, none⟩ (.int .i64 (G d).wt)).setCell ⟨z, 5, none⟩ (.int .i64 (G d).md)).setCell ⟨z, 6, none⟩ (.int .i64 (G d).td)) none := by
    have hz := HZ.out
    exact grown_above (grown_above (grown_above (grown_above (grown_above (grown_above (grown_above K2.out (by omega) _ _) (by omega) _ _) (by omega) _ _) (by omega) _ _) (by omega) _ _) (by omega) _ _) (by omega) _ _
  have B := B6.out
  generalize (((((((w2.setCell ⟨z, 0, none⟩ (.bool (G d).op)).setCell ⟨z, 1, none⟩ (.int .i64 (G d).rd)).setCell ⟨z, 2, none⟩ (.int .i64 (G d).lt)).setCell ⟨z, 3, none⟩ (.int .u64 (G d).h)).setCell ⟨z, 4, none⟩ (.int .i64 (G d).wt)).setCell ⟨z, 5, none⟩ (.int .i64 (G d).md)).setCell ⟨z, 6, none⟩ (.int .i64 (G d).td)) = wz at *
  have x0 := cell_blk B 0; have x1 := cell_blk B 1; have x2 := cell_blk B 2; have x3 := cell_blk B 3; have x4 := cell_blk B 4; have x5 := cell_blk B 5; have x6 := cell_blk B 6
  simp at x0 x1 x2 x3 x4 x5 x6
  clear B B6
  exact bodyPost_ret (v := .tuple #[.agg #[.bool (G d).op, .int .i64 (G d).rd, .int .i64 (G d).lt, .int .u64 (G d).h, .int .i64 (G d).wt, .int .i64 (G d).md, .int .i64 (G d).td], .bool true]) (by simp [results, Try.results15, go_sem, x0, x1, x2, x3, x4, x5, x6]) rfl ⟨rfl, KE⟩
theorem po_post_zero (H : PoM w pb gb bb c qb lo hi n cap T D Mx G L f Q) (d m : Int) (hm : bits .and .i64 m 7 = 0) : Calls Try.prog 12 #[.pointer (some ⟨pb, 0, none⟩), .int .i64 d, .int .i64 m] w fun e w' => e = .returned (.bool false) ∧ w = w' := by
  clear H
  go_enter Try.func12, Try.ntmps12
  go_wp2
  go_ret
  exact ⟨rfl, rfl⟩
theorem po_post_off (H : PoM w pb gb bb c qb lo hi n cap T D Mx G L f Q) (d m : Int) (hm : bits .and .i64 m 7 ≠ 0) (hd : hasD n d = false) : Calls Try.prog 12 #[.pointer (some ⟨pb, 0, none⟩), .int .i64 d, .int .i64 m] w fun e w' => e = .returned (.bool false) ∧ w = w' := by
  have C := Lib.hid (po_isOpen_no H d hd)
  obtain ⟨mm, hmm⟩ : ∃ mm, bits .and .i64 m 7 = mm := ⟨_, rfl⟩
  rw [hmm] at hm
  have e1 : (mm == 0) = false := by simpa using hm
  have e3 : decide (mm = 0) = false := by simpa using hm
  clear H hd hm
  go_enter Try.func12, Try.ntmps12
  go_wp2_with fail
  refine C.out.mono ?_
  rintro e w1 ⟨rfl, rfl⟩
  go_wp2
  go_ret
  exact ⟨rfl, rfl⟩
theorem po_post_shut (H : PoM w pb gb bb c qb lo hi n cap T D Mx G L f Q) (d : Nat) (m : Int) (hm : bits .and .i64 m 7 ≠ 0) (hd : d < n) (ho : (G d).op = false) : Calls Try.prog 12 #[.pointer (some ⟨pb, 0, none⟩), .int .i64 d, .int .i64 m] w fun e w' => e = .returned (.bool false) ∧ w.grownBy w' none := by
  have C := Lib.hid (po_isOpen H d hd)
  rw [ho] at C
  obtain ⟨mm, hmm⟩ : ∃ mm, bits .and .i64 m 7 = mm := ⟨_, rfl⟩
  rw [hmm] at hm
  have e1 : (mm == 0) = false := by simpa using hm
  have e3 : decide (mm = 0) = false := by simpa using hm
  clear H hd hm ho
  go_enter Try.func12, Try.ntmps12
  go_wp2_with fail
  refine C.out.mono ?_
  rintro e w1 ⟨rfl, k1⟩
  go_wp2
  go_ret
  exact ⟨rfl, k1⟩
set_option maxHeartbeats 1000000 in
theorem po_post_in (H : PoM w pb gb bb c qb lo hi n cap T D Mx G L f Q) (d : Nat) (m mm : Int) (hmm : bits .and .i64 m 7 = mm) (hm : mm ≠ 0) (hd : d < n) (ho : (G d).op = true) (hl : L.length < cap) : Calls Try.prog 12 #[.pointer (some ⟨pb, 0, none⟩), .int .i64 d, .int .i64 m] w fun e w' => e = .returned (.bool true) ∧ (∃ p, w.heap.size ≤ p ∧ p < w'.heap.size ∧ PoM w' pb gb bb c qb lo hi n cap T D Mx G (L ++ [(p, ((d : Int), mm))]) f Q) ∧ OnlyB (ownP pb gb bb c lo hi L) w w' := by
  have C := Lib.hid (po_isOpen H d hd)
  rw [ho] at C
  have e1 : (mm == 0) = false := by simpa using hm
  have e3 : decide (mm = 0) = false := by simpa using hm
  have HH := Lib.hid H
  have HL := Lib.hid hl
  have HD := Lib.hid hd
  clear H hd hm ho hl
  go_enter Try.func12, Try.ntmps12
  go_wp2_with fail
  refine C.out.mono ?_
  rintro e w1 ⟨rfl, k1⟩
  have H1 := Lib.hid (HH.out.kept k1)
  have K1 := Lib.hid k1
  obtain ⟨c0, c1, c2, c3, fz⟩ := p_cells H1.out
  have CP := Lib.hid (BN.post_ok (d : Int) mm H1.out.bx HL.out)
  clear C k1 HH c0 c2 c3 fz
  try rw [hmm]
  go_wp2_with fail
  refine CP.out.mono ?_
  rintro e w2 ⟨rfl, h2, k2⟩
  have R := Lib.hid (And.intro h2 k2)
  clear CP h2 k2 c1
  go_wp2
  go_ret
  have hk : OnlyB (fun k => k = c ∨ ∃ x ∈ L, k = x.1) w1 w2 := OnlyB.of_only R.out.2 (Or.inl rfl)
  have hp := R.out.1.lt.2.2 _ (List.mem_append.2 (Or.inr (List.mem_singleton.2 rfl)))
  refine ⟨rfl, ⟨w1.heap.size + 1, by have := K1.out.size; omega, hp, H1.out.notes hk R.out.1 fun x hx => ?_⟩, (OnlyB.of_none K1.out).trans (ownB_n hk)⟩
  rcases List.mem_append.1 hx with hx | hx
  · exact Or.inl hx
  · have := HD.out
    rw [List.mem_singleton.1 hx]
    exact Or.inr ⟨by show w1.heap.size ≤ w1.heap.size + 1; omega, by show (0 : Int) ≤ (d : Int); omega, by show (d : Int) < n; omega⟩
set_option maxHeartbeats 1000000 in
theorem po_post_keep (H : PoM w pb gb bb c qb lo hi n cap T D Mx G L f Q) (d : Nat) (m mm : Int) (hmm : bits .and .i64 m 7 = mm) (hm : mm ≠ 0) (hd : d < n) (ho : (G d).op = true) (hl : cap ≤ L.length) : Calls Try.prog 12 #[.pointer (some ⟨pb, 0, none⟩), .int .i64 d, .int .i64 m] w fun e w' => e = .returned (.bool true) ∧ PoM w' pb gb bb c qb lo hi n cap T D Mx (updG G d (gKeep (G d) mm)) L f Q ∧ OnlyB (ownP pb gb bb c lo hi L) w w' := by
  have C := Lib.hid (po_isOpen H d hd)
  rw [ho] at C
  have e1 : (mm == 0) = false := by simpa using hm
  have e3 : decide (mm = 0) = false := by simpa using hm
  have HH := Lib.hid H
  have HL := Lib.hid hl
  have hn := H.nb.1
  have MD := Lib.hid (H.gs.md d hd)
  clear H hm ho hl
  go_enter Try.func12, Try.ntmps12
  go_wp2_with fail
  refine C.out.mono ?_
  rintro e w1 ⟨rfl, k1⟩
  have H1 := Lib.hid (HH.out.kept k1)
  have K1 := Lib.hid k1
  obtain ⟨c0, c1, c2, c3, fz⟩ := p_cells H1.out
  have CP := Lib.hid (BN.post_no (d : Int) mm H1.out.bx HL.out)
  clear C k1 HH c0 c2 c3 fz
  try rw [hmm]
  go_wp2_with fail
  refine CP.out.mono ?_
  rintro e w2 ⟨rfl, h2, k2⟩
  have H2 := Lib.hid (H1.out.kept k2)
  have K2 := Lib.hid (K1.out.trans k2)
  obtain ⟨c0, c4, c2, c3, fz⟩ := p_cells H2.out
  have CK := Lib.hid (go_keep (H2.out.gs.gt d hd) mm)
  clear CP h2 k2 c1 c2 c3 c4 fz
  go_wp2_with fail
  refine CK.out.mono ?_
  rintro e w3 ⟨rfl, h3, k3⟩
  have R := Lib.hid (And.intro h3 k3)
  clear CK h3 k3 c0
  go_wp2
  go_ret
  exact ⟨rfl, H2.out.turn R.out.1 R.out.2 (mdOk_keep MD.out), (OnlyB.of_none K2.out).trans (ownB_g R.out.2.k)⟩
theorem po_notes (H : PoM w pb gb bb c qb lo hi n cap T D Mx G L f Q) : Calls Try.prog 13 #[.pointer (some ⟨pb, 0, none⟩)] w fun e w' => (∃ v, e = .returned v ∧ w'.ownsRow (w.heap.size + 1) 67 2 v L.length (vals L)) ∧ PoM w' pb gb bb c qb lo hi n cap T D Mx G L f Q ∧ Only c (c + 1) w w' := by
  have CA := Lib.hid (BN.all_any H.bx)
  obtain ⟨c0, c1, c2, c3, fz⟩ := p_cells H
  have HH := Lib.hid H
  clear H c0 c2 c3 fz
  go_enter Try.func13, Try.ntmps13
  go_wp2_with fail
  refine CA.out.mono ?_
  rintro e w1 ⟨⟨v, rfl, h1⟩, h2, k2⟩
  have R := Lib.hid (And.intro h1 (And.intro h2 k2))
  clear h1 h2 k2
  go_wp2
  go_ret
  exact ⟨⟨v, rfl, R.out.1⟩, HH.out.notes (OnlyB.of_only R.out.2.2 (Or.inl rfl)) R.out.2.1 (fun x hx => Or.inl hx), R.out.2.2⟩
end
end Go.Proofs.Ytpnipmjjhiaieaa
