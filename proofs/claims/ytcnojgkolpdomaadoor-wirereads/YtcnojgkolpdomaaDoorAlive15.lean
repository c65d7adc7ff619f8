/-
  nightjarlaw15.alive, over this seat's translation.
-/
import Derived.Test.YtcnojgkolpdomaaDoorWire6
import Derived.Test.YtcnojgkolpdomaaDoorWire7
import Derived.Test.YtcnojgkolpdomaaDoorWire8
namespace Go.Proofs.YtcnojgkolpdomaaDoor
open Go.RowKit Go.Lib
set_option maxRecDepth 100000
set_option linter.unusedVariables false

def al2 : List En := [⟨0, 0, 5, zC, 0, 0⟩, ⟨2, 1, 0, zC, 2, 3⟩]
def al9 : List Nat := [3, 0, 5, 0, 4, 2, 1, 2, 3]
theorem al_sm : ∀ e ∈ al2, smC e.call := by
  intro e he
  simp only [al2, List.mem_cons, List.not_mem_nil, or_false] at he
  rcases he with rfl | rfl <;> exact ⟨by decide, by decide, by decide⟩
theorem al_all : al2.all okE = true := by decide
theorem al_okL : okL al2 := fun e he => ⟨List.all_eq_true.1 al_all e he, al_sm e he⟩
theorem al_wr : wrB al2 = al9 := by decide
theorem al_rd : rd (al9 ++ [9, 9]) = al2 := by
  rw [← al_wr, wrB, rd_all al2 [9, 9] al_okL, rd_few (k := 9) (t := [9]) (by decide), List.append_nil]
theorem al_take : (rd (al9 ++ [9, 9])).take 2048 = al2 := by rw [al_rd]; rfl
/-- A row of entries that a call writes out. -/
theorem lit_reads (w : World) (L : List En) (C : Array Value) (n q : Nat) (hC : C = (ens L).toArray) (hn : n = L.length) (hq : q = w.heap.size) (hl : L.length ≤ 1000) (hs : ∀ e ∈ L, smC e.call) : ReadsE (w.alloc (.cells C 55)) (.slice (some ⟨q, 0, none⟩) n n) L := by
  subst hC hn hq
  refine ⟨_, _, rfl, Nat.le_refl _, by unfold maxLen; omega, hs, fun _ => ⟨w.heap.size, 0, rfl, by simp, fun j hj i hi => ?_⟩⟩
  rw [World.cell?_alloc_new, Nat.zero_add]
  simpa using ens_at L j i hj hi
theorem al_isB : isB al9 := by rw [← al_wr]; exact wrB_isB (fun e he => List.all_eq_true.1 al_all e he)

set_option maxHeartbeats 8000000 in
theorem alive15 {w : World} (HT : FormsAt w) : Calls Tryd.prog 27 #[] w fun r w' => r = .returned (.bool true) ∧ w.grownBy w' none := by
  have HT0 := Lib.hid HT
  have k0 := World.grownBy_alloc w (.cells #[.int .i64 0, .int .i64 0, .int .i64 5, .int .i64 0, .int .u64 0, .int .u64 0, .int .u64 0, .int .i64 0, .int .i64 0, .int .i64 2, .int .i64 1, .int .i64 0, .int .i64 0, .int .u64 0, .int .u64 0, .int .u64 0, .int .i64 2, .int .i64 3] 55) none
  have G0 := Lib.hid k0
  have hr0 := lit_reads w al2 #[.int .i64 0, .int .i64 0, .int .i64 5, .int .i64 0, .int .u64 0, .int .u64 0, .int .u64 0, .int .i64 0, .int .i64 0, .int .i64 2, .int .i64 1, .int .i64 0, .int .i64 0, .int .u64 0, .int .u64 0, .int .u64 0, .int .i64 2, .int .i64 3] 2 w.heap.size rfl rfl rfl (by decide) al_sm
  have CW := Lib.hid (wwrite hr0 (HT.kept k0) (by decide))
  have HR0 := Lib.hid hr0
  obtain ⟨i0, hi0, hz0, hz1, hz2⟩ := byte_info
  have I0 := Lib.hid hi0
  have I1 := Lib.hid hz0
  have I2 := Lib.hid hz1
  have I3 := Lib.hid hz2
  clear hi0 hz0 hz1 hz2 hr0 k0 HT
  go_enter Tryd.func27, Tryd.ntmps27
  go_wp2_with fail
  refine CW.out.mono ?_
  rintro r w1 ⟨g1, v1, rfl, hb1⟩
  have hb1 := hb1 al_all
  rw [al_wr] at hb1
  have hv : wrV al2 v1 = .tuple #[v1, .int .i64 0] := by rw [wrV, al_all]; rfl
  rw [hv]
  have G1 := Lib.hid (G0.out.trans g1)
  have HR1 := Lib.hid (HR0.out.grown g1)
  have HB1 := Lib.hid hb1
  -- the bytes, and two more
  have kA := World.grownBy_alloc w1 (.cells #[] 5) none
  have hown0 : (w1.alloc (.cells #[] 5)).ownsRow w1.heap.size 5 1 (.slice (some ⟨w1.heap.size, 0, none⟩) 0 0) 0 [] := lit_brow w1 w1.heap.size (Nat.le_refl _)
  have HOW := Lib.hid hown0
  have sr := ((hb1.grown kA).reads al_isB).src (by decide)
  have GA := Lib.hid (G1.out.trans kA)
  have hlw := Lib.hid (show w.heap.size ≤ w1.heap.size from G1.out.size)
  have hbase1 : w1.heap.size ≤ (w1.alloc (.cells #[] 5)).heap.size := kA.size
  have HKA := Lib.hid kA
  have hl9 : al9.length = 9 := rfl
  have hB9 := al_isB
  have HLB := Lib.hid (lit_brow w1 w1.heap.size (Nat.le_refl _))
  obtain ⟨F9, hF9⟩ : ∃ F9, F9 = al9 := ⟨_, rfl⟩
  have HF9 := Lib.hid hF9
  rw [← hF9] at hb1 sr hl9 hB9 HB1
  clear hF9
  clear g1 CW hb1 hv hown0 kA
  go_wp2_with (first
  | (
  at_builtin
  refine wpList_append_src _ rfl _ _ 38 rfl w1.heap.size 5 i0 (.int .u8 0) 1 1 Tryd.underlying38 I0.out I1.out I2.out I3.out rfl (by decide) (.slice (some ⟨w1.heap.size, 0, none⟩) 0 0) 0 [] rfl HOW.out v1 F9.length (bys F9) rfl sr (by unfold maxLen; omega) (by omega) hbase1 ?_
  intro v2 w2 hown2 hg2 hnil2 hat2
  have R2 : BRow w2 w1.heap.size v2 F9 := by
    have := src_put (F := []) (G := F9) (by simpa [bys] using hown2)
    simpa using this
  have HR2 := Lib.hid R2
  have K2 := Lib.hid (grow_own HKA.out HLB.out (Nat.le_refl _) hg2)
  have hown3 : (w2.alloc (.cells #[.int .u8 9, .int .u8 9] 5)).ownsRow w1.heap.size 5 1 v2 F9.length (bys F9) := World.ownsRow.alloc R2 _
  have HO3 := Lib.hid hown3
  have sr2 := ((lit_at w2 0 [9, 9] #[.int .u8 9, .int .u8 9] 2 w2.heap.size rfl rfl (Nat.zero_le _) (by decide) rfl).reads (by intro x hx; simp at hx; subst hx; decide)).src (by decide)
  have hbase2 : w1.heap.size ≤ (w2.alloc (.cells #[.int .u8 9, .int .u8 9] 5)).heap.size := by have := K2.out.size; simp; omega
  have K2a := Lib.hid (K2.out.trans (World.grownBy_alloc w2 (.cells #[.int .u8 9, .int .u8 9] 5) none))
  clear hown2 hg2 hnil2 hat2 R2 hown3 sr hbase1
  )
  | (
  at_builtin
  refine wpList_append_src _ rfl _ _ 38 rfl w1.heap.size 5 i0 (.int .u8 0) 1 1 Tryd.underlying38 I0.out I1.out I2.out I3.out rfl (by decide) v2 F9.length (bys F9) rfl HO3.out _ 2 (bys [9, 9]) rfl sr2 (by unfold maxLen; omega) (by omega) hbase2 ?_
  intro v3 w3 hown4 hg4 hnil4 hat4
  have R3 := Lib.hid (show BRow w3 w1.heap.size v3 (F9 ++ [9, 9]) from src_put (F := F9) (G := [9, 9]) hown4)
  have K3 := Lib.hid (grow_own K2a.out (show BRow _ w1.heap.size v2 F9 from HO3.out) (Nat.le_refl _) hg4)
  clear hown4 hg4 hnil4 hat4 sr2 hbase2
  ))
  have G3 := Lib.hid (G1.out.trans K3.out)
  have hB11 : isB (F9 ++ [9, 9]) := by
    intro x hx
    rcases List.mem_append.1 hx with h | h
    · exact hB9 x h
    · simp at h; subst h; decide
  have CR := wread (R3.out.reads hB11) (HT0.out.kept G3.out) (by rw [List.length_append, hl9]; decide)
  rw [HF9.out, al_take] at CR
  have CR := Lib.hid CR
  refine CR.out.mono ?_
  rintro r w4 ⟨g4, v4, rfl, he4⟩
  have G4 := Lib.hid (G3.out.trans g4)
  have K4 := Lib.hid (K3.out.trans g4)
  have kl := World.grownBy_alloc w4 (.cells #[.int .u8 3, .int .u8 0, .int .u8 5, .int .u8 0, .int .u8 4, .int .u8 2, .int .u8 1, .int .u8 2, .int .u8 3] 5) none
  have hlit := (lit_at w4 0 al9 #[.int .u8 3, .int .u8 0, .int .u8 5, .int .u8 0, .int .u8 4, .int .u8 2, .int .u8 1, .int .u8 2, .int .u8 3] 9 w4.heap.size rfl rfl (Nat.zero_le _) (by decide) rfl).reads al_isB
  have hb4 := (HB1.out.grown (K4.out.trans kl)).reads hB9
  rw [HF9.out] at hb4
  have SB := rsameB hb4 hlit
  simp only [decide_true] at SB
  have SB := Lib.hid SB
  have G5 := Lib.hid (G4.out.trans kl)
  have hel := (he4.grown kl).reads al_sm
  have hli := HR1.out.grown (K4.out.trans kl)
  have SE := Lib.hid (rsameE hel hli)
  have CZ := fun (wz : World) (h : w.grownBy wz none) => wright (w := wz) zE ⟨by decide, by decide, by decide⟩ (HT0.out.kept h)
  rw [zE_no] at CZ
  unfold zE En.val zC at CZ
  simp only at CZ
  have CZ := Lib.hid CZ
  clear CR g4 kl hlit hb4 he4 hel hli hB11 hB9 hl9
  go_wp2_with fail
  refine SB.out.mono ?_
  rintro r w5 ⟨rfl, rfl⟩
  go_wp2_with fail
  refine SE.out.mono ?_
  rintro r w6 ⟨rfl, g6⟩
  have G6 := Lib.hid (G5.out.trans g6)
  clear g6
  go_wp2_with fail
  refine (CZ.out _ G6.out).mono ?_
  rintro r w7 ⟨rfl, g7⟩
  go_wp2
  go_ret
  exact ⟨by simp, G6.out.trans g7⟩
end Go.Proofs.YtcnojgkolpdomaaDoor
