/-
  PollKeeps: however little room there is for notes, nothing that comes of an open device gets lost.
-/
import Derived.Test.YtpnipmjjhiaieaaPKeeps0
namespace Go.Proofs.Ytpnipmjjhiaieaa
open Go.RowKit Go.Lib BN
set_option maxRecDepth 100000
set_option linter.unusedVariables false
theorem PoF.nt {F : Nat → Prop} {w : World} {pb qb n cap T D : Nat} {Mx : Int} {s : Ps} (H : PoF F w pb qb n cap T D Mx s) : ∀ v ∈ s.N, 0 ≤ v.1 ∧ v.1 < n := by
  obtain ⟨gb, bb, c, lo, hi, L, H, hN, hF⟩ := H
  intro v hv
  rw [← hN] at hv
  obtain ⟨x, hx, rfl⟩ := List.mem_map.1 hv
  exact H.nt x hx
/-- A poll, two rows of the law's own, and a step's box. -/
structure KS (W w : World) (n rb ob z pb qb cp : Nat) (s : Ps) (R : Nat → Int) (O : Nat → Bool) (a : Array Value) : Prop where
  p : P1 W w (fun j => j = rb ∨ j = ob ∨ j = z) pb qb n cp 0 n n s
  r : w.heap[rb]? = some (.cells (rowI n R) 28 (0, 0))
  o : w.heap[ob]? = some (.cells (rowB n O) 29 (0, 0))
  z : w.heap[z]? = some (.cells a 32 (0, 0))
theorem KS.d {W w : World} {n rb ob z pb qb cp : Nat} {s : Ps} {R : Nat → Int} {O : Nat → Bool} {a : Array Value} (H : KS W w n rb ob z pb qb cp s R O a) : rb ≠ ob ∧ rb ≠ z ∧ ob ≠ z :=
  ⟨cells_ne H.r H.o (by decide), cells_ne H.r H.z (by decide), cells_ne H.o H.z (by decide)⟩
section
variable {W w w' : World} {n rb ob z pb qb cp : Nat} {s s' : Ps} {R : Nat → Int} {O : Nat → Bool} {a : Array Value}
theorem KS.step (H : KS W w n rb ob z pb qb cp s R O a) (h : PoF (grF (since W fun j => j = rb ∨ j = ob ∨ j = z) w w') w' pb qb n cp 0 n n s') (k : OnlyB (since W fun j => j = rb ∨ j = ob ∨ j = z) w w') : KS W w' n rb ob z pb qb cp s' R O a :=
  ⟨H.p.step h k, (H.p.own k (Or.inl rfl)).trans H.r, (H.p.own k (Or.inr (Or.inl rfl))).trans H.o, (H.p.own k (Or.inr (Or.inr rfl))).trans H.z⟩
theorem KS.stay (H : KS W w n rb ob z pb qb cp s R O a) (h : PoF (since W fun j => j = rb ∨ j = ob ∨ j = z) w' pb qb n cp 0 n n s') (k : OnlyB (since W fun j => j = rb ∨ j = ob ∨ j = z) w w') : KS W w' n rb ob z pb qb cp s' R O a :=
  H.step (h.sub fun j hj => Or.inl hj) k
theorem KS.setR (H : KS W w n rb ob z pb qb cp s R O a) (d : Nat) (x : Int) : KS W (w.setCell ⟨rb, d, none⟩ (.int .i64 x)) n rb ob z pb qb cp s (upZk R d x) O a := by
  have hd := H.d
  exact ⟨H.p.set (Or.inl rfl) d _, by rw [← rowI_set]; exact blk_setCell w rb d _ _ _ H.r, (Below.heap_setCell w ⟨rb, d, none⟩ _ ob (by show ob ≠ rb; exact hd.1.symm)).trans H.o, (Below.heap_setCell w ⟨rb, d, none⟩ _ z (by show z ≠ rb; exact hd.2.1.symm)).trans H.z⟩
theorem KS.setO (H : KS W w n rb ob z pb qb cp s R O a) (d : Nat) (x : Bool) : KS W (w.setCell ⟨ob, d, none⟩ (.bool x)) n rb ob z pb qb cp s R (upBk O d x) a := by
  have hd := H.d
  exact ⟨H.p.set (Or.inr (Or.inl rfl)) d _, (Below.heap_setCell w ⟨ob, d, none⟩ _ rb (by show rb ≠ ob; exact hd.1)).trans H.r, by rw [← rowB_set]; exact blk_setCell w ob d _ _ _ H.o, (Below.heap_setCell w ⟨ob, d, none⟩ _ z (by show z ≠ ob; exact hd.2.2.symm)).trans H.z⟩
theorem KS.kept (H : KS W w n rb ob z pb qb cp s R O a) (k : w.grownBy w' none) : KS W w' n rb ob z pb qb cp s R O a :=
  ⟨H.p.kept k, (H.p.blk k (Or.inl rfl)).trans H.r, (H.p.blk k (Or.inr (Or.inl rfl))).trans H.o, (H.p.blk k (Or.inr (Or.inr rfl))).trans H.z⟩
theorem KS.drew (H : KS W w n rb ob z pb qb cp s R O a) : KS W w.drew n rb ob z pb qb cp s R O a := H.kept (gd (World.grownBy.refl _ _))
/-- What is read of it. -/
theorem KS.cells (H : KS W w n rb ob z pb qb cp s R O a) (d : Nat) (hd : d < n) : w.cell? ⟨rb, d, none⟩ = some (.int .i64 (R d)) ∧ w.cell? ⟨ob, d, none⟩ = some (.bool (O d)) ∧ w.frozen? ⟨rb, d, none⟩ = false ∧ w.frozen? ⟨ob, d, none⟩ = false :=
  ⟨(cell_blk H.r d).trans (rowI_at n R d hd), (cell_blk H.o d).trans (rowB_at n O d hd), frozen_blk H.r d, frozen_blk H.o d⟩
end
set_option maxRecDepth 100000 in
set_option maxHeartbeats 64000000 in
theorem pkeeps_walk (notes : Int) (sa1 : Option Addr) (len1 cap1 sb1 off1 : Nat) (zs1 : Nat → Nat → Int) (hh1 : Nat → Nat) (w : World)
    (_hm1 : len1 ≤ maxLen) (hs1 : 0 < len1 → sa1 = some ⟨sb1, off1, none⟩ ∧ sb1 < w.heap.size) (hz1 : ∀ j, j < len1 → (∀ i, i < 5 → i ≠ 3 → w.cell? ⟨sb1, off1 + j * 5 + i, none⟩ = some (.int .i64 (zs1 j i))) ∧ w.cell? ⟨sb1, off1 + j * 5 + 3, none⟩ = some (.int .u64 (hh1 j : Nat)) ∧ hh1 j < 18446744073709551616) :
    Calls Try.prog 3 #[.int .i64 notes, .slice sa1 len1 cap1] w fun e w' => e = .returned (.bool true) ∧ w.grownBy w' none := by
  have C0 := Lib.hid (alive13 w)
  have R0 : Hid (∀ (v : World) (j : Nat), w.grownBy v none → j < len1 → sa1 = some ⟨sb1, off1, none⟩ ∧ v.cell? ⟨sb1, off1 + j * 5, none⟩ = some (.int .i64 (zs1 j 0)) ∧ v.cell? ⟨sb1, off1 + j * 5 + 1, none⟩ = some (.int .i64 (zs1 j 1)) ∧ v.cell? ⟨sb1, off1 + j * 5 + 2, none⟩ = some (.int .i64 (zs1 j 2)) ∧ v.cell? ⟨sb1, off1 + j * 5 + 3, none⟩ = some (.int .u64 (hh1 j : Nat)) ∧ v.cell? ⟨sb1, off1 + j * 5 + 4, none⟩ = some (.int .i64 (zs1 j 4))) := Lib.hid fun v j k hj => by
    obtain ⟨h1, h2⟩ := hs1 (by omega)
    obtain ⟨a1, a2, _⟩ := hz1 j hj
    have far := fun o => k.cell_far ⟨sb1, o, none⟩ h2 (by simp)
    exact ⟨h1, (far _).trans (a1 0 (by omega) (by omega)), (far _).trans (a1 1 (by omega) (by omega)), (far _).trans (a1 2 (by omega) (by omega)), (far _).trans a2, (far _).trans (a1 4 (by omega) (by omega))⟩
  clear hs1 hz1
  by_cases hl0 : 40 < len1
  · have q : (40 : Int) < (len1 : Int) := by omega
    go_enter Try.func3, Try.ntmps3
    go_wp2_with fail
    refine C0.out.mono ?_
    rintro e w1 ⟨rfl, k1⟩
    go_wp2
    go_ret
    exact ⟨rfl, k1⟩
  have q0 : ¬ (40 : Int) < (len1 : Int) := by omega
  have x1 : bits .and .i64 notes 15 = notes % 16 := by simpa using i64_mask 4 (by decide) notes
  obtain ⟨cp, hcp⟩ : ∃ n : Nat, notes % 16 = (n : Int) := ⟨(notes % 16).toNat, by omega⟩
  rw [hcp] at x1
  have hcb : cp ≤ 15 := by omega
  clear hcp
  go_enter Try.func3, Try.ntmps3
  go_wp2_with fail
  refine C0.out.mono ?_
  rintro e u0 ⟨rfl, k0⟩
  have K0 := Lib.hid k0
  have CQ := Lib.hid (qu_new 0 8 8 0 8 (by decide) (by decide) u0)
  clear k0 C0
  go_wp2_with fail
  refine CQ.out.mono ?_
  rintro e u1 ⟨qb, rfl, k1, hq⟩
  have CN := Lib.hid (po_new hq 8 (cp : Int) 8 cp (by decide) (by unfold nP; omega))
  have K1 := Lib.hid k1
  clear k1 hq CQ
  go_wp2_with fail
  try rw [x1]
  refine CN.out.mono ?_
  rintro e u2 ⟨pb, rfl, k2, h2⟩
  have H0 : Hid (P1 w u2 (fun _ => False) pb qb 8 cp 0 8 8 ⟨fun _ => gz, [], 0, []⟩) := Lib.hid (P1.new K0.out K1.out k2 h2)
  clear k2 h2 CN K1 K0
  have eR : (#[.int .i64 0, .int .i64 0, .int .i64 0, .int .i64 0, .int .i64 0, .int .i64 0, .int .i64 0, .int .i64 0] : Array Value) = rowI 8 (fun _ => 0) := rfl
  have eO : (#[.bool false, .bool false, .bool false, .bool false, .bool false, .bool false, .bool false, .bool false] : Array Value) = rowB 8 (fun _ => false) := rfl
  have ER := Lib.hid eR
  have EO := Lib.hid eO
  clear eR eO
  go_wp2_with fail
  rw [ER.out, EO.out]
  obtain ⟨rb, hrb⟩ : ∃ b, u2.heap.size = b := ⟨_, rfl⟩
  have H1 : Hid (P1 w (u2.alloc (.cells (rowI 8 (fun _ => 0)) 28)) (fun j => j = rb) pb qb 8 cp 0 8 8 ⟨fun _ => gz, [], 0, []⟩) := Lib.hid ((H0.out.add _).alt fun j hj => by rw [hrb]; exact Or.inr hj)
  have R1 : Hid ((u2.alloc (.cells (rowI 8 (fun _ => 0)) 28)).heap[rb]? = some (.cells (rowI 8 (fun _ => 0)) 28 (0, 0))) := Lib.hid (by rw [← hrb]; exact heap_alloc_new _ _)
  have hs3 : (u2.alloc (.cells (rowI 8 (fun _ => 0)) 28)).heap.size = rb + 1 := by rw [World.size_alloc, hrb]
  clear H0 ER EO
  rw [hrb]
  generalize u2.alloc (.cells (rowI 8 (fun _ => 0)) 28) = u3 at *
  clear hrb
  obtain ⟨ob, hob⟩ : ∃ b, u3.heap.size = b := ⟨_, rfl⟩
  have ka := World.grownBy_alloc u3 (.cells (rowB 8 (fun _ => false)) 29) none
  have R2 := Lib.hid ((H1.out.blk ka rfl).trans R1.out)
  have H2 : Hid (P1 w (u3.alloc (.cells (rowB 8 (fun _ => false)) 29)) (fun j => j = rb ∨ j = ob) pb qb 8 cp 0 8 8 ⟨fun _ => gz, [], 0, []⟩) := Lib.hid ((H1.out.add _).alt fun j hj => by rw [hob]; exact hj)
  have O2 : Hid ((u3.alloc (.cells (rowB 8 (fun _ => false)) 29)).heap[ob]? = some (.cells (rowB 8 (fun _ => false)) 29 (0, 0))) := Lib.hid (by rw [← hob]; exact heap_alloc_new _ _)
  have HK := Lib.hid (KI.start 8)
  try rw [← hs3, hob]
  try rw [hob]
  generalize u3.alloc (.cells (rowB 8 (fun _ => false)) 29) = u4 at *
  clear H1 R1 ka hob hs3
  go_loopw [30] (fun it wr => ∃ (i : Nat) (s : Ps) (R : Nat → Int) (O : Nat → Bool), i ≤ len1 ∧ it = .int .i64 i ∧ Hid (P1 w wr (fun j => j = rb ∨ j = ob) pb qb 8 cp 0 8 8 s) ∧ Hid (KI 8 s R O) ∧ Hid (wr.heap[rb]? = some (.cells (rowI 8 R) 28 (0, 0))) ∧ Hid (wr.heap[ob]? = some (.cells (rowB 8 O) 29 (0, 0)))) (fun it _ => len1 - (intOf it).toNat)
  case atStart => exact ⟨0, _, _, _, Nat.zero_le _, rfl, H2, HK, R2, O2⟩
  case round =>
    clear H2 HK R2 O2
    obtain ⟨i, s, R, O, hi, rfl, H, HK, HR, HO⟩ := hrel
    by_cases hlt : i < len1
    · have qi : (i : Int) < (len1 : Int) := by omega
      obtain ⟨rfl, c0, c1, c2, c3, c4⟩ := R0.out wr i H.out.2.1 hlt
      obtain ⟨kd, hkd⟩ : ∃ x, zs1 i 0 = x := ⟨_, rfl⟩
      obtain ⟨dv, hdv⟩ : ∃ x, zs1 i 1 = x := ⟨_, rfl⟩
      obtain ⟨mk, hmk⟩ : ∃ x, zs1 i 2 = x := ⟨_, rfl⟩
      obtain ⟨md, hmd⟩ : ∃ x, zs1 i 4 = x := ⟨_, rfl⟩
      obtain ⟨hd1, hhd⟩ : ∃ x, hh1 i = x := ⟨_, rfl⟩
      rw [hkd] at c0
      rw [hdv] at c1
      rw [hmk] at c2
      rw [hhd] at c3
      rw [hmd] at c4
      have xd : bits .and .i64 dv 7 = dv % 8 := by simpa using i64_mask 3 (by decide) dv
      obtain ⟨d, hd⟩ : ∃ n : Nat, dv % 8 = (n : Int) := ⟨(dv % 8).toNat, by omega⟩
      rw [hd] at xd
      have hd8 : d < 8 := by omega
      have qd : (d : Int) < 8 := by omega
      obtain ⟨mm, hmm⟩ : ∃ x, bits .and .i64 mk 7 = x := ⟨_, rfl⟩
      clear hkd hdv hmk hmd hhd hd
      have ka := World.grownBy_alloc wr (.cells #[.int .i64 kd, .int .i64 dv, .int .i64 mk, .int .u64 (hd1 : Nat), .int .i64 md] 32) none
      obtain ⟨z, hz⟩ : ∃ b, wr.heap.size = b := ⟨_, rfl⟩
      have HS : Hid (KS w (wr.alloc (.cells #[.int .i64 kd, .int .i64 dv, .int .i64 mk, .int .u64 (hd1 : Nat), .int .i64 md] 32)) 8 rb ob z pb qb cp s R O #[.int .i64 kd, .int .i64 dv, .int .i64 mk, .int .u64 (hd1 : Nat), .int .i64 md]) := Lib.hid
        ⟨(H.out.add _).alt fun j hj => (by simp only [hz]; omega), (H.out.blk ka (Or.inl rfl)).trans HR.out, (H.out.blk ka (Or.inr rfl)).trans HO.out, by rw [← hz]; exact heap_alloc_new _ _⟩
      have HNT := Lib.hid H.out.1.nt
      clear ka H HR HO
      rcases (show kd = 0 ∨ kd = 1 ∨ (kd ≠ 0 ∧ kd ≠ 1) by omega) with hk0 | hk1 | ⟨hk0, hk1⟩
      · subst hk0
        have CO := Lib.hid (pf_open HS.out.p.1 d hd8)
        go_wp2_with fail
        try rw [hz]
        generalize wr.alloc (.cells #[.int .i64 0, .int .i64 dv, .int .i64 mk, .int .u64 (hd1 : Nat), .int .i64 md] 32) = wa at *
        refine CO.out.mono ?_
        rintro e v1 ⟨rfl, h, kk⟩
        have HT := Lib.hid (HS.out.step h kk)
        have HK1 := Lib.hid (HK.out.opened (d := d) hd8)
        obtain ⟨r1, o1, f1, f2⟩ := HT.out.cells d hd8
        have z2 := cell_blk HT.out.z 2
        have z0 := cell_blk HT.out.z 0
        simp only [List.getElem?_toArray, List.getElem?_cons_zero, List.getElem?_cons_succ] at z2 z0
        have HS1 := Lib.hid (HT.out.setO d true)
        have y0 := cell_blk HS1.out.z 0
        have y2 := cell_blk HS1.out.z 2
        simp only [List.getElem?_toArray, List.getElem?_cons_zero, List.getElem?_cons_succ] at y0 y2
        clear h kk CO HS HK HT c0 c1 c2 c3 c4
        have HKp := Lib.hid (HK1.out.posted (d := d) cp mk hd8)
        have HOP := Lib.hid (HK1.out.o d hd8)
        have C := pf_post HS1.out.p.1 d mk hd8
        rw [HOP.out, hmm] at C
        rw [hmm] at HKp
        have CP := Lib.hid C
        clear C
        go_wp2_with fail
        clear r1 o1 f1 f2 z2 z0 y0 y2
        refine CP.out.mono ?_
        rintro e v1 ⟨rfl, h, kk⟩
        have HT := Lib.hid (HS1.out.step h kk)
        clear h kk CP HS1 HK1 HOP
        obtain ⟨r1, o1, f1, f2⟩ := HT.out.cells d hd8
        have z2 := cell_blk HT.out.z 2
        simp only [List.getElem?_toArray, List.getElem?_cons_zero, List.getElem?_cons_succ] at z2
        have hmf : decide (mm ≠ 0) = !decide (mm = 0) := by simp
        cases hod : (upBk O d true) d
        · rw [hod] at o1 HKp
          simp only [Bool.false_eq_true, if_false] at HKp
          have CN := Lib.hid (pf_notes HT.out.p.1)
          have HRM := Lib.hid HT.out.p.1.room
          clear r1 f1 f2 hmf
          go_wp2_with fail
          refine CN.out.mono ?_
          rintro e v' ⟨⟨sn, cn, rfl⟩, h, kk⟩
          have HU := Lib.hid (HT.out.stay h kk)
          have hle : ¬ (cp : Int) < ((sPost cp (sOpen s d) d mk).N.length : Int) := by have := HRM.out; omega
          clear h kk CN HT z2 o1
          generalize (sPost cp (sOpen s d) d mk).N.length = nl at *
          go_wp2
          go_roundw
          case rel => exact ⟨i + 1, _, _, _, hlt, by go_num, Lib.hid (HU.out.p.alt fun j hj => (by omega)), HKp, Lib.hid HU.out.r, Lib.hid HU.out.o⟩
          case measure => simp [intOf]; omega
        · rw [hod] at o1 HKp
          simp only [if_true] at HKp
          have HU0 := Lib.hid (HT.out.setR d (bits .or .i64 (R d) mm)).drew
          have CN := Lib.hid (pf_notes HU0.out.p.1)
          have HRM := Lib.hid HU0.out.p.1.room
          by_cases hm0 : mm = 0
          · have e1 : (mm != 0) = false := by simp [hm0]
            have e2 : decide (mm ≠ 0 ∧ True) = false := by simp [hm0]
            have e3 : decide (mm = 0) = true := by simp [hm0]
            have HM0 := Lib.hid hm0
            clear hmf hm0
            go_wp2_with fail
            go_region
            all_goals
              go_wp2_with fail
              refine CN.out.mono ?_
              rintro e v' ⟨⟨sn, cn, rfl⟩, h, kk⟩
              have HU := Lib.hid (HU0.out.stay h kk)
              have hle : ¬ (cp : Int) < ((sPost cp (sOpen s d) d mk).N.length : Int) := by have := HRM.out; omega
              clear h kk CN HT HU0 z2 o1 r1 f1 f2
              generalize (sPost cp (sOpen s d) d mk).N.length = nl at *
              go_wp2
              go_roundw
              case rel => exact ⟨i + 1, _, _, _, hlt, by go_num, Lib.hid (HU.out.p.alt fun j hj => (by omega)), HKp, Lib.hid HU.out.r, Lib.hid HU.out.o⟩
              case measure => simp [intOf]; omega
          · have e1 : (mm != 0) = true := by simp [hm0]
            have e2 : decide (mm ≠ 0 ∧ True) = true := by simp [hm0]
            have e3 : decide (mm = 0) = false := by simp [hm0]
            have HM0 := Lib.hid hm0
            clear hmf hm0
            go_wp2_with fail
            go_region
            all_goals
              go_wp2_with fail
              refine CN.out.mono ?_
              rintro e v' ⟨⟨sn, cn, rfl⟩, h, kk⟩
              have HU := Lib.hid (HU0.out.stay h kk)
              have hle : ¬ (cp : Int) < ((sPost cp (sOpen s d) d mk).N.length : Int) := by have := HRM.out; omega
              clear h kk CN HT HU0 z2 o1 r1 f1 f2
              generalize (sPost cp (sOpen s d) d mk).N.length = nl at *
              go_wp2
              go_roundw
              case rel => exact ⟨i + 1, _, _, _, hlt, by go_num, Lib.hid (HU.out.p.alt fun j hj => (by omega)), HKp, Lib.hid HU.out.r, Lib.hid HU.out.o⟩
              case measure => simp [intOf]; omega
      · subst hk1
        have CO := Lib.hid (pf_close HS.out.p.1 d hd8)
        go_wp2_with fail
        try rw [hz]
        generalize wr.alloc (.cells #[.int .i64 1, .int .i64 dv, .int .i64 mk, .int .u64 (hd1 : Nat), .int .i64 md] 32) = wa at *
        refine CO.out.mono ?_
        rintro e v1 ⟨rfl, h, kk⟩
        have HT := Lib.hid (HS.out.step h kk)
        have HK1 := Lib.hid (HK.out.closed 0 8 (d := d) hd8 fun v hv => (HNT.out v hv).1)
        obtain ⟨r1, o1, f1, f2⟩ := HT.out.cells d hd8
        have z2 := cell_blk HT.out.z 2
        have z0 := cell_blk HT.out.z 0
        simp only [List.getElem?_toArray, List.getElem?_cons_zero, List.getElem?_cons_succ] at z2 z0
        have HS0 := Lib.hid (HT.out.setO d false)
        have r2 := (HS0.out.cells d hd8).1
        have f3 := (HS0.out.cells d hd8).2.2.1
        have HS1 := Lib.hid (HS0.out.setR d 0)
        have y0 := cell_blk HS1.out.z 0
        have y2 := cell_blk HS1.out.z 2
        simp only [List.getElem?_toArray, List.getElem?_cons_zero, List.getElem?_cons_succ] at y0 y2
        clear h kk CO HS HK HT c0 c1 c2 c3 c4
        have HKp := Lib.hid (HK1.out.posted (d := d) cp mk hd8)
        have HOP := Lib.hid (HK1.out.o d hd8)
        have C := pf_post HS1.out.p.1 d mk hd8
        rw [HOP.out, hmm] at C
        rw [hmm] at HKp
        have CP := Lib.hid C
        clear C
        go_wp2_with fail
        clear r1 o1 f1 f2 z2 z0 r2 f3 HS0 y0 y2
        refine CP.out.mono ?_
        rintro e v1 ⟨rfl, h, kk⟩
        have HT := Lib.hid (HS1.out.step h kk)
        clear h kk CP HS1 HK1 HOP
        obtain ⟨r1, o1, f1, f2⟩ := HT.out.cells d hd8
        have z2 := cell_blk HT.out.z 2
        simp only [List.getElem?_toArray, List.getElem?_cons_zero, List.getElem?_cons_succ] at z2
        have hmf : decide (mm ≠ 0) = !decide (mm = 0) := by simp
        cases hod : (upBk O d false) d
        · rw [hod] at o1 HKp
          simp only [Bool.false_eq_true, if_false] at HKp
          have CN := Lib.hid (pf_notes HT.out.p.1)
          have HRM := Lib.hid HT.out.p.1.room
          clear r1 f1 f2 hmf
          go_wp2_with fail
          refine CN.out.mono ?_
          rintro e v' ⟨⟨sn, cn, rfl⟩, h, kk⟩
          have HU := Lib.hid (HT.out.stay h kk)
          have hle : ¬ (cp : Int) < ((sPost cp (sClose 0 8 s d) d mk).N.length : Int) := by have := HRM.out; omega
          clear h kk CN HT z2 o1
          generalize (sPost cp (sClose 0 8 s d) d mk).N.length = nl at *
          go_wp2
          go_roundw
          case rel => exact ⟨i + 1, _, _, _, hlt, by go_num, Lib.hid (HU.out.p.alt fun j hj => (by omega)), HKp, Lib.hid HU.out.r, Lib.hid HU.out.o⟩
          case measure => simp [intOf]; omega
        · rw [hod] at o1 HKp
          simp only [if_true] at HKp
          have HU0 := Lib.hid (HT.out.setR d (bits .or .i64 ((upZk R d 0) d) mm)).drew
          have CN := Lib.hid (pf_notes HU0.out.p.1)
          have HRM := Lib.hid HU0.out.p.1.room
          by_cases hm0 : mm = 0
          · have e1 : (mm != 0) = false := by simp [hm0]
            have e2 : decide (mm ≠ 0 ∧ True) = false := by simp [hm0]
            have e3 : decide (mm = 0) = true := by simp [hm0]
            have HM0 := Lib.hid hm0
            clear hmf hm0
            go_wp2_with fail
            go_region
            all_goals
              go_wp2_with fail
              refine CN.out.mono ?_
              rintro e v' ⟨⟨sn, cn, rfl⟩, h, kk⟩
              have HU := Lib.hid (HU0.out.stay h kk)
              have hle : ¬ (cp : Int) < ((sPost cp (sClose 0 8 s d) d mk).N.length : Int) := by have := HRM.out; omega
              clear h kk CN HT HU0 z2 o1 r1 f1 f2
              generalize (sPost cp (sClose 0 8 s d) d mk).N.length = nl at *
              go_wp2
              go_roundw
              case rel => exact ⟨i + 1, _, _, _, hlt, by go_num, Lib.hid (HU.out.p.alt fun j hj => (by omega)), HKp, Lib.hid HU.out.r, Lib.hid HU.out.o⟩
              case measure => simp [intOf]; omega
          · have e1 : (mm != 0) = true := by simp [hm0]
            have e2 : decide (mm ≠ 0 ∧ True) = true := by simp [hm0]
            have e3 : decide (mm = 0) = false := by simp [hm0]
            have HM0 := Lib.hid hm0
            clear hmf hm0
            go_wp2_with fail
            go_region
            all_goals
              go_wp2_with fail
              refine CN.out.mono ?_
              rintro e v' ⟨⟨sn, cn, rfl⟩, h, kk⟩
              have HU := Lib.hid (HU0.out.stay h kk)
              have hle : ¬ (cp : Int) < ((sPost cp (sClose 0 8 s d) d mk).N.length : Int) := by have := HRM.out; omega
              clear h kk CN HT HU0 z2 o1 r1 f1 f2
              generalize (sPost cp (sClose 0 8 s d) d mk).N.length = nl at *
              go_wp2
              go_roundw
              case rel => exact ⟨i + 1, _, _, _, hlt, by go_num, Lib.hid (HU.out.p.alt fun j hj => (by omega)), HKp, Lib.hid HU.out.r, Lib.hid HU.out.o⟩
              case measure => simp [intOf]; omega
      · have e01 : (kd == 0) = false := by simpa using hk0
        have e02 : (kd == 1) = false := by simpa using hk1
        have e03 : decide (kd = 0) = false := by simpa using hk0
        have e04 : decide (kd = 1) = false := by simpa using hk1
        clear hk0 hk1
        have HKp := Lib.hid (HK.out.posted (d := d) cp mk hd8)
        have HOP := Lib.hid (HK.out.o d hd8)
        have C := pf_post HS.out.p.1 d mk hd8
        rw [HOP.out, hmm] at C
        rw [hmm] at HKp
        have CP := Lib.hid C
        clear C
        go_wp2_with fail
        try rw [hz]
        generalize wr.alloc (.cells #[.int .i64 kd, .int .i64 dv, .int .i64 mk, .int .u64 (hd1 : Nat), .int .i64 md] 32) = wa at *
        clear e01 e02 e03 e04 c0 c1 c2 c3 c4
        refine CP.out.mono ?_
        rintro e vp ⟨rfl, h, kk⟩
        have HT := Lib.hid (HS.out.step h kk)
        clear h kk CP HS HK HOP
        obtain ⟨r1, o1, f1, f2⟩ := HT.out.cells d hd8
        have z2 := cell_blk HT.out.z 2
        simp only [List.getElem?_toArray, List.getElem?_cons_zero, List.getElem?_cons_succ] at z2
        have hmf : decide (mm ≠ 0) = !decide (mm = 0) := by simp
        cases hod : O d
        · rw [hod] at o1 HKp
          simp only [Bool.false_eq_true, if_false] at HKp
          have CN := Lib.hid (pf_notes HT.out.p.1)
          have HRM := Lib.hid HT.out.p.1.room
          clear r1 f1 f2 hmf
          go_wp2_with fail
          refine CN.out.mono ?_
          rintro e v' ⟨⟨sn, cn, rfl⟩, h, kk⟩
          have HU := Lib.hid (HT.out.stay h kk)
          have hle : ¬ (cp : Int) < ((sPost cp s d mk).N.length : Int) := by have := HRM.out; omega
          clear h kk CN HT z2 o1
          generalize (sPost cp s d mk).N.length = nl at *
          go_wp2
          go_roundw
          case rel => exact ⟨i + 1, _, _, _, hlt, by go_num, Lib.hid (HU.out.p.alt fun j hj => (by omega)), HKp, Lib.hid HU.out.r, Lib.hid HU.out.o⟩
          case measure => simp [intOf]; omega
        · rw [hod] at o1 HKp
          simp only [if_true] at HKp
          have HU0 := Lib.hid (HT.out.setR d (bits .or .i64 (R d) mm)).drew
          have CN := Lib.hid (pf_notes HU0.out.p.1)
          have HRM := Lib.hid HU0.out.p.1.room
          by_cases hm0 : mm = 0
          · have e1 : (mm != 0) = false := by simp [hm0]
            have e2 : decide (mm ≠ 0 ∧ True) = false := by simp [hm0]
            have e3 : decide (mm = 0) = true := by simp [hm0]
            have HM0 := Lib.hid hm0
            clear hmf hm0
            go_wp2_with fail
            go_region
            all_goals
              go_wp2_with fail
              refine CN.out.mono ?_
              rintro e v' ⟨⟨sn, cn, rfl⟩, h, kk⟩
              have HU := Lib.hid (HU0.out.stay h kk)
              have hle : ¬ (cp : Int) < ((sPost cp s d mk).N.length : Int) := by have := HRM.out; omega
              clear h kk CN HT HU0 z2 o1 r1 f1 f2
              generalize (sPost cp s d mk).N.length = nl at *
              go_wp2
              go_roundw
              case rel => exact ⟨i + 1, _, _, _, hlt, by go_num, Lib.hid (HU.out.p.alt fun j hj => (by omega)), HKp, Lib.hid HU.out.r, Lib.hid HU.out.o⟩
              case measure => simp [intOf]; omega
          · have e1 : (mm != 0) = true := by simp [hm0]
            have e2 : decide (mm ≠ 0 ∧ True) = true := by simp [hm0]
            have e3 : decide (mm = 0) = false := by simp [hm0]
            have HM0 := Lib.hid hm0
            clear hmf hm0
            go_wp2_with fail
            go_region
            all_goals
              go_wp2_with fail
              refine CN.out.mono ?_
              rintro e v' ⟨⟨sn, cn, rfl⟩, h, kk⟩
              have HU := Lib.hid (HU0.out.stay h kk)
              have hle : ¬ (cp : Int) < ((sPost cp s d mk).N.length : Int) := by have := HRM.out; omega
              clear h kk CN HT HU0 z2 o1 r1 f1 f2
              generalize (sPost cp s d mk).N.length = nl at *
              go_wp2
              go_roundw
              case rel => exact ⟨i + 1, _, _, _, hlt, by go_num, Lib.hid (HU.out.p.alt fun j hj => (by omega)), HKp, Lib.hid HU.out.r, Lib.hid HU.out.o⟩
              case measure => simp [intOf]; omega
    · obtain rfl : i = len1 := by omega
      have CS := Lib.hid (pf_settle H.out.1)
      go_wp2_with fail
      refine CS.out.mono ?_
      rintro e v1 ⟨rfl, h, kk⟩
      have H1 := Lib.hid (H.out.step h kk)
      have HR1 := Lib.hid ((H.out.own kk (Or.inl rfl)).trans HR.out)
      have HO1 := Lib.hid ((H.out.own kk (Or.inr rfl)).trans HO.out)
      have HG : Hid (∀ j, j < 8 → ((sSettle 8 0 8 8 s).G j).rd = R j ∧ ((sSettle 8 0 8 8 s).G j).lt = 0 ∧ ((sSettle 8 0 8 8 s).G j).op = O j) := Lib.hid fun j hj => by
        cases hop : O j
        · obtain ⟨h1, h2⟩ := HK.out.z j hj hop
          have := sG_shut 8 s j hj h1
          show ((sG 8 s) j).rd = _ ∧ ((sG 8 s) j).lt = _ ∧ ((sG 8 s) j).op = _
          rw [this, h2]
          exact ⟨rfl, rfl, rfl⟩
        · obtain ⟨h1, h2, h3⟩ := sG_open 8 s j hj ((HK.out.o j hj).trans hop)
          show ((sG 8 s) j).rd = _ ∧ ((sG 8 s) j).lt = _ ∧ ((sG 8 s) j).op = _
          exact ⟨h2.trans (HK.out.r j hj hop).symm, h3, h1⟩
      have HN0 : Hid ((sSettle 8 0 8 8 s).N.length = 0) := Lib.hid rfl
      generalize sSettle 8 0 8 8 s = s2 at *
      clear h kk CS H HR HO HK R0
      go_wp2_with fail
      go_loopw [91] (fun it wr => ∃ (j : Nat), j ≤ 8 ∧ it = .int .i64 j ∧ Hid (P1 w wr (fun j => j = rb ∨ j = ob) pb qb 8 cp 0 8 8 s2) ∧ Hid (wr.heap[rb]? = some (.cells (rowI 8 R) 28 (0, 0))) ∧ Hid (wr.heap[ob]? = some (.cells (rowB 8 O) 29 (0, 0)))) (fun it _ => 8 - (intOf it).toNat)
      case atStart => exact ⟨0, Nat.zero_le _, rfl, H1, HR1, HO1⟩
      case round =>
        clear H1 HR1 HO1
        obtain ⟨j, hj, rfl, H, HR, HO⟩ := hrel
        by_cases hlt : j < 8
        · have qj : (j : Int) < 8 := by omega
          obtain ⟨g1, g2, g3⟩ := HG.out j hlt
          have C := pf_look H.out.1 j hlt
          unfold gval at C
          rw [g1, g2, g3] at C
          have CL := Lib.hid C
          clear C g1 g2 g3
          go_wp2_with fail
          refine CL.out.mono ?_
          rintro e v2 ⟨rfl, k2⟩
          have H2 := Lib.hid (H.out.kept k2)
          have HR2 := Lib.hid ((H.out.blk k2 (Or.inl rfl)).trans HR.out)
          have HO2 := Lib.hid ((H.out.blk k2 (Or.inr rfl)).trans HO.out)
          clear k2 CL H HR HO
          generalize (s2.G j).h = g4 at *
          generalize (s2.G j).wt = g5 at *
          generalize (s2.G j).md = g6 at *
          generalize (s2.G j).td = g7 at *
          have ka := World.grownBy_alloc v2 (.cells #[.bool (O j), .int .i64 (R j), .int .i64 0, .int .u64 g4, .int .i64 g5, .int .i64 g6, .int .i64 g7] 38) none
          have H3 := Lib.hid (H2.out.kept ka)
          have HR3 := Lib.hid ((H2.out.blk ka (Or.inl rfl)).trans HR2.out)
          have HO3 := Lib.hid ((H2.out.blk ka (Or.inr rfl)).trans HO2.out)
          have LK : Hid ((v2.alloc (.cells #[.bool (O j), .int .i64 (R j), .int .i64 0, .int .u64 g4, .int .i64 g5, .int .i64 g6, .int .i64 g7] 38)).heap[v2.heap.size]? = some (.cells #[.bool (O j), .int .i64 (R j), .int .i64 0, .int .u64 g4, .int .i64 g5, .int .i64 g6, .int .i64 g7] 38 (0, 0))) := Lib.hid (heap_alloc_new _ _)
          have c1 := (cell_blk HR3.out j).trans (rowI_at 8 R j hlt)
          have c2 := (cell_blk HO3.out j).trans (rowB_at 8 O j hlt)
          have b0 := cell_blk LK.out 0
          have b1 := cell_blk LK.out 1
          have b2 := cell_blk LK.out 2
          simp only [List.getElem?_toArray, List.getElem?_cons_zero, List.getElem?_cons_succ] at b0 b1 b2
          clear ka H2 HR2 HO2
          go_wp2_with fail
          generalize v2.heap.size = z at *
          generalize v2.alloc (.cells #[.bool (O j), .int .i64 (R j), .int .i64 0, .int .u64 g4, .int .i64 g5, .int .i64 g6, .int .i64 g7] 38) = v3 at *
          generalize O j = oj at *
          generalize R j = rj at *
          go_quiet (fail)
          go_wp2
          go_roundw
          case rel => exact ⟨j + 1, hlt, by go_num, Lib.hid (H3.out.kept (gdN _ (World.grownBy.refl _ _))), HR3, HO3⟩
          case measure => simp [intOf]; omega
        · obtain rfl : j = 8 := by omega
          have CN := Lib.hid (pf_notes H.out.1)
          rw [HN0.out] at CN
          go_wp2_with fail
          refine CN.out.mono ?_
          rintro e v' ⟨⟨sn, cn, rfl⟩, h, kk⟩
          have HU := Lib.hid (H.out.stay h kk)
          clear h kk CN
          go_wp2
          go_ret
          exact ⟨rfl, HU.out.2.1⟩
end Go.Proofs.Ytpnipmjjhiaieaa
