/-
  PollEdges: watched by its edges, what comes of a device is told, and, unless it comes again, not again.
-/
import Derived.Test.YtpnipmjjhiaieaaPEdges0
import Derived.Test.YtpnipmjjhiaieaaEqT
namespace Go.Proofs.Ytpnipmjjhiaieaa
open Go.RowKit Go.Lib BN
set_option maxRecDepth 100000
set_option linter.unusedVariables false
theorem EI.can {s : Ps} {R : Nat → Int} {O : Nat → Bool} (H : EI s R O) : ∀ j, j < 4 → (bv (R j)).toInt = R j := fun j hj => by
  cases ho : O j
  · rw [(H.k.z j hj ho).2]; decide
  · rw [H.k.r j hj ho, bv_toInt]
theorem rowI_congr (n : Nat) (c c' : Nat → Int) (h : ∀ j, j < n → c j = c' j) : rowI n c = rowI n c' := by
  unfold rowI
  congr 1
  exact List.map_congr_left fun j hj => by rw [h j (List.mem_range.1 hj)]
/-- What Pop tells. -/
def popI : List Nat → Int × Int × Bool
  | [] => (0, 0, false)
  | j :: _ => (2, (j : Int), true)
theorem pf_pop {F : Nat → Prop} {w : World} {pb qb n cap D : Nat} {Mx : Int} {s : Ps} (H : PoF F w pb qb n cap 0 D Mx s) : Calls Try.prog 18 #[.pointer (some ⟨qb, 0, none⟩)] w fun e w' => e = .returned (.tuple #[.agg #[.int .i64 (popI s.Q).1, .int .i64 (popI s.Q).2.1], .bool (popI s.Q).2.2]) ∧ PoF (grF F w w') w' pb qb n cap 0 D Mx (sQ s s.Q.tail) ∧ OnlyB F w w' := by
  cases hq : s.Q with
  | nil => exact (pf_pop_none H hq).mono fun e w' ⟨h1, h2⟩ => ⟨h1, by
      have : sQ s ([] : List Nat).tail = s := by unfold sQ; cases s; simp only at hq; subst hq; rfl
      rw [this]
      exact (H.kept h2).sub fun k hk => Or.inl hk, OnlyB.of_none h2⟩
  | cons j r =>
    have := pf_pop_some H j r hq
    rw [show thK 0 j = 2 from rfl, show thI 0 j = (j : Int) by unfold thI; simp] at this
    exact this
/-- How many wait, as the queue's own count has it. -/
def qLen (w : World) (qb : Nat) : Nat := match w.cell? ⟨qb, 3, none⟩ with
  | some (.int _ d) => d.toNat
  | _ => 0
theorem devN_zero (Q : List Nat) : devN 0 Q = Q.length := by unfold devN; simp
theorem qLen_po {F : Nat → Prop} {w : World} {pb qb n cap D : Nat} {Mx : Int} {s : Ps} (H : PoF F w pb qb n cap 0 D Mx s) : qLen w qb = s.Q.length := by
  obtain ⟨gb, bb, c, lo, hi, L, H, hN, hF⟩ := H
  obtain ⟨lb, HM, _⟩ := H.qu
  unfold qLen
  rw [HM.c3]
  simp [devN_zero]
/-- A poll, two rows of four, and a thing's box. -/
structure E3 (W w : World) (ob tb z pb qb cp : Nat) (s : Ps) (B T : Nat → Int) (kz iz : Int) : Prop where
  p : P1 W w (fun j => j = ob ∨ j = tb ∨ j = z) pb qb 4 cp 0 4 4 s
  o : w.heap[ob]? = some (.cells (rowI 4 B) 52 (0, 0))
  t : w.heap[tb]? = some (.cells (rowI 4 T) 52 (0, 0))
  z : w.heap[z]? = some (.cells #[.int .i64 kz, .int .i64 iz] 46 (0, 0))
  ne : ob ≠ tb
section
variable {W w w' : World} {ob tb z pb qb cp : Nat} {s s' : Ps} {B T : Nat → Int} {kz iz : Int}
theorem E3.d (H : E3 W w ob tb z pb qb cp s B T kz iz) : ob ≠ tb ∧ ob ≠ z ∧ tb ≠ z := ⟨H.ne, cells_ne H.o H.z (by decide), cells_ne H.t H.z (by decide)⟩
theorem E3.step (H : E3 W w ob tb z pb qb cp s B T kz iz) (h : PoF (grF (since W fun j => j = ob ∨ j = tb ∨ j = z) w w') w' pb qb 4 cp 0 4 4 s') (k : OnlyB (since W fun j => j = ob ∨ j = tb ∨ j = z) w w') : E3 W w' ob tb z pb qb cp s' B T kz iz :=
  ⟨H.p.step h k, (H.p.own k (Or.inl rfl)).trans H.o, (H.p.own k (Or.inr (Or.inl rfl))).trans H.t, (H.p.own k (Or.inr (Or.inr rfl))).trans H.z, H.ne⟩
theorem E3.kept (H : E3 W w ob tb z pb qb cp s B T kz iz) (k : w.grownBy w' none) : E3 W w' ob tb z pb qb cp s B T kz iz :=
  ⟨H.p.kept k, (H.p.blk k (Or.inl rfl)).trans H.o, (H.p.blk k (Or.inr (Or.inl rfl))).trans H.t, (H.p.blk k (Or.inr (Or.inr rfl))).trans H.z, H.ne⟩
theorem E3.setT (H : E3 W w ob tb z pb qb cp s B T kz iz) (d : Nat) (x : Int) : E3 W (w.setCell ⟨tb, d, none⟩ (.int .i64 x)) ob tb z pb qb cp s B (upZk T d x) kz iz := by
  have hd := H.d
  exact ⟨H.p.set (Or.inr (Or.inl rfl)) d _, (Below.heap_setCell w ⟨tb, d, none⟩ _ ob (by show ob ≠ tb; exact hd.1)).trans H.o, by rw [← rowI_set]; exact blk_setCell w tb d _ _ _ H.t, (Below.heap_setCell w ⟨tb, d, none⟩ _ z (by show z ≠ tb; exact hd.2.2.symm)).trans H.z, H.ne⟩
theorem E3.setO (H : E3 W w ob tb z pb qb cp s B T kz iz) (d : Nat) (x : Int) : E3 W (w.setCell ⟨ob, d, none⟩ (.int .i64 x)) ob tb z pb qb cp s (upZk B d x) T kz iz := by
  have hd := H.d
  exact ⟨H.p.set (Or.inl rfl) d _, by rw [← rowI_set]; exact blk_setCell w ob d _ _ _ H.o, (Below.heap_setCell w ⟨ob, d, none⟩ _ tb (by show tb ≠ ob; exact hd.1.symm)).trans H.t, (Below.heap_setCell w ⟨ob, d, none⟩ _ z (by show z ≠ ob; exact hd.2.1.symm)).trans H.z, H.ne⟩
theorem E3.setZ (H : E3 W w ob tb z pb qb cp s B T kz iz) (k' i' : Int) : E3 W ((w.setCell ⟨z, 0, none⟩ (.int .i64 k')).setCell ⟨z, 1, none⟩ (.int .i64 i')) ob tb z pb qb cp s B T k' i' := by
  have hd := H.d
  have far : ∀ (v : World) (o : Nat) (u : Value) (b : Nat), b ≠ z → (v.setCell ⟨z, o, none⟩ u).heap[b]? = v.heap[b]? := fun v o u b hb => Below.heap_setCell v ⟨z, o, none⟩ u b (by show b ≠ z; exact hb)
  have hz := blk_setCell _ z 1 (.int .i64 i') _ _ (blk_setCell w z 0 (.int .i64 k') _ _ H.z)
  exact ⟨(H.p.set (Or.inr (Or.inr rfl)) 0 _).set (Or.inr (Or.inr rfl)) 1 _, (far _ _ _ _ hd.2.1).trans ((far _ _ _ _ hd.2.1).trans H.o), (far _ _ _ _ hd.2.2).trans ((far _ _ _ _ hd.2.2).trans H.t), by simpa using hz, H.ne⟩
theorem E3.newZ (H : E3 W w ob tb z pb qb cp s B T kz iz) (k' i' : Int) : E3 W (w.alloc (.cells #[.int .i64 k', .int .i64 i'] 46)) ob tb w.heap.size pb qb cp s B T k' i' := by
  have ka := World.grownBy_alloc w (.cells #[.int .i64 k', .int .i64 i'] 46) none
  exact ⟨(H.p.add _).alt fun j hj => (by omega), (H.p.blk ka (Or.inl rfl)).trans H.o, (H.p.blk ka (Or.inr (Or.inl rfl))).trans H.t, heap_alloc_new _ _, H.ne⟩
end
set_option maxRecDepth 100000 in
set_option maxHeartbeats 64000000 in
theorem pedges_walk (notes : Int) (sa1 : Option Addr) (len1 cap1 sb1 off1 : Nat) (zs1 : Nat → Nat → Int) (hh1 : Nat → Nat) (off : Int) (w : World)
    (_hm1 : len1 ≤ maxLen) (hs1 : 0 < len1 → sa1 = some ⟨sb1, off1, none⟩ ∧ sb1 < w.heap.size) (hz1 : ∀ j, j < len1 → (∀ i, i < 5 → i ≠ 3 → w.cell? ⟨sb1, off1 + j * 5 + i, none⟩ = some (.int .i64 (zs1 j i))) ∧ w.cell? ⟨sb1, off1 + j * 5 + 3, none⟩ = some (.int .u64 (hh1 j : Nat)) ∧ hh1 j < 18446744073709551616) :
    Calls Try.prog 5 #[.int .i64 notes, .slice sa1 len1 cap1, .int .i64 off] w fun e w' => e = .returned (.bool true) ∧ w.grownBy w' none := by
  have C0 := Lib.hid (alive13 w)
  have R0 : Hid (∀ (v : World) (j : Nat), w.grownBy v none → j < len1 → sa1 = some ⟨sb1, off1, none⟩ ∧ v.cell? ⟨sb1, off1 + j * 5, none⟩ = some (.int .i64 (zs1 j 0)) ∧ v.cell? ⟨sb1, off1 + j * 5 + 1, none⟩ = some (.int .i64 (zs1 j 1)) ∧ v.cell? ⟨sb1, off1 + j * 5 + 2, none⟩ = some (.int .i64 (zs1 j 2)) ∧ v.cell? ⟨sb1, off1 + j * 5 + 3, none⟩ = some (.int .u64 (hh1 j : Nat)) ∧ v.cell? ⟨sb1, off1 + j * 5 + 4, none⟩ = some (.int .i64 (zs1 j 4))) := Lib.hid fun v j k hj => by
    obtain ⟨h1, h2⟩ := hs1 (by omega)
    obtain ⟨a1, a2, _⟩ := hz1 j hj
    have far := fun o => k.cell_far ⟨sb1, o, none⟩ h2 (by simp)
    exact ⟨h1, (far _).trans (a1 0 (by omega) (by omega)), (far _).trans (a1 1 (by omega) (by omega)), (far _).trans (a1 2 (by omega) (by omega)), (far _).trans a2, (far _).trans (a1 4 (by omega) (by omega))⟩
  clear hs1 hz1
  by_cases hl0 : 40 < len1
  · have q : (40 : Int) < (len1 : Int) := by omega
    go_enter Try.func5, Try.ntmps5
    go_wp2_with fail
    refine C0.out.mono ?_
    rintro e w1 ⟨rfl, k1⟩
    go_wp2
    go_ret
    exact ⟨rfl, k1⟩
  have q0 : ¬ (40 : Int) < (len1 : Int) := by omega
  have x1 : bits .and .i64 notes 7 = notes % 8 := by simpa using i64_mask 3 (by decide) notes
  obtain ⟨cp, hcp⟩ : ∃ n : Nat, notes % 8 = (n : Int) := ⟨(notes % 8).toNat, by omega⟩
  rw [hcp] at x1
  have hcb : cp ≤ 7 := by omega
  have x2 : bits .and .i64 off 7 = off % 8 := by simpa using i64_mask 3 (by decide) off
  obtain ⟨od, hod⟩ : ∃ n : Nat, off % 8 = (n : Int) := ⟨(off % 8).toNat, by omega⟩
  rw [hod] at x2
  have X1 := Lib.hid x1
  have X2 := Lib.hid x2
  clear hcp hod x2
  go_enter Try.func5, Try.ntmps5
  go_wp2_with fail
  refine C0.out.mono ?_
  rintro e u0 ⟨rfl, k0⟩
  have K0 := Lib.hid k0
  have CQ := Lib.hid (qu_new 0 4 4 0 4 (by decide) (by decide) u0)
  clear k0 C0
  go_wp2_with fail
  refine CQ.out.mono ?_
  rintro e u1 ⟨qb, rfl, k1, hq⟩
  have CN := Lib.hid (po_new hq 4 (cp : Int) 4 cp (by decide) (by unfold nP; omega))
  have K1 := Lib.hid k1
  clear k1 hq CQ
  go_wp2_with fail
  try rw [X1.out]
  refine CN.out.mono ?_
  rintro e u2 ⟨pb, rfl, k2, h2⟩
  have H0 : Hid (P1 w u2 (fun _ => False) pb qb 4 cp 0 4 4 (eS 0)) := Lib.hid (P1.new K0.out K1.out k2 h2)
  clear k2 h2 CN K1 K0 x1
  go_wp2_with fail
  go_loopw [28] (fun it wr => ∃ k : Nat, k ≤ 4 ∧ it = .int .i64 k ∧ Hid (P1 w wr (fun _ => False) pb qb 4 cp 0 4 4 (eS k))) (fun it _ => 4 - (intOf it).toNat)
  case atStart => exact ⟨0, Nat.zero_le _, rfl, H0⟩
  case round =>
    clear H0
    obtain ⟨k, hk, rfl, H⟩ := hrel
    by_cases hlt : k < 4
    · have qk : (k : Int) < 4 := by omega
      have qc : IntKind.u64.wrap (k : Int) = (k : Int) := by rw [IntKind.wrap_u64]; omega
      have qc2 : IntKind.u64.wrap ((k : Int) + 1) = (k : Int) + 1 := by rw [IntKind.wrap_u64]; omega
      have C := pf_open H.out.1 k hlt
      rw [eS_open] at C
      have CO := Lib.hid C
      clear C
      go_wp2_with fail
      refine CO.out.mono ?_
      rintro e v1 ⟨rfl, h, kk⟩
      have H1 := Lib.hid (H.out.step h kk)
      clear h kk CO H
      have C := pf_watch H1.out.1 k ((k : Int) + 1) 7 1 hlt
      rw [eO_watch k, eS_step] at C
      have CO := Lib.hid C
      clear C
      go_wp2_with fail
      refine CO.out.mono ?_
      rintro e v2 ⟨rfl, h, kk⟩
      have H2 := Lib.hid (H1.out.step h kk)
      clear h kk CO H1
      go_wp2
      go_roundw
      case rel => exact ⟨k + 1, hlt, by go_num, H2⟩
      case measure => simp [intOf]; omega
    · obtain rfl : k = 4 := by omega
      rw [show ((4 : Nat) : Int) = 4 from rfl]
      have eR : (#[.int .i64 0, .int .i64 0, .int .i64 0, .int .i64 0] : Array Value) = rowI 4 (fun _ => 0) := rfl
      have ER := Lib.hid eR
      clear eR
      go_wp2_with fail
      rw [ER.out]
      obtain ⟨ob, hob⟩ : ∃ b, wr.heap.size = b := ⟨_, rfl⟩
      have H1 : Hid (P1 w (wr.alloc (.cells (rowI 4 (fun _ => 0)) 52)) (fun j => j = ob) pb qb 4 cp 0 4 4 (eS 4)) := Lib.hid ((H.out.add _).alt fun j hj => by rw [hob]; exact Or.inr hj)
      have R1 : Hid ((wr.alloc (.cells (rowI 4 (fun _ => 0)) 52)).heap[ob]? = some (.cells (rowI 4 (fun _ => 0)) 52 (0, 0))) := Lib.hid (by rw [← hob]; exact heap_alloc_new _ _)
      have E1 := Lib.hid EI.start
      rw [hob]
      generalize wr.alloc (.cells (rowI 4 (fun _ => 0)) 52) = u3 at *
      clear hob H
      go_loopw [48] (fun it wr => ∃ (i : Nat) (s : Ps) (R : Nat → Int), i ≤ len1 ∧ it = .int .i64 i ∧ Hid (P1 w wr (fun j => j = ob) pb qb 4 cp 0 4 4 s) ∧ Hid (EI s R (fun _ => true)) ∧ Hid (wr.heap[ob]? = some (.cells (rowI 4 R) 52 (0, 0)))) (fun it _ => len1 - (intOf it).toNat)
      case atStart => exact ⟨0, _, _, Nat.zero_le _, rfl, H1, E1, R1⟩
      case round =>
        clear H1 E1 R1
        obtain ⟨i, s, R, hi, rfl, H, HE, HR⟩ := hrel
        by_cases hlt : i < len1
        · have qi : (i : Int) < (len1 : Int) := by omega
          obtain ⟨rfl, c0, c1, c2, c3, c4⟩ := R0.out wr i H.out.2.1 hlt
          obtain ⟨kd, hkd⟩ : ∃ x, zs1 i 0 = x := ⟨_, rfl⟩
          obtain ⟨dv, hdv⟩ : ∃ x, zs1 i 1 = x := ⟨_, rfl⟩
          obtain ⟨mk, hmk⟩ : ∃ x, zs1 i 2 = x := ⟨_, rfl⟩
          obtain ⟨md, hmd⟩ : ∃ x, zs1 i 4 = x := ⟨_, rfl⟩
          obtain ⟨hd1, hhd⟩ : ∃ x, hh1 i = x := ⟨_, rfl⟩
          rw [hkd] at c0
          rw [hdv] at c1
          rw [hmk] at c2
          rw [hhd] at c3
          rw [hmd] at c4
          have xd := and3 dv
          obtain ⟨d, hd⟩ : ∃ n : Nat, dv % 4 = (n : Int) := ⟨(dv % 4).toNat, by omega⟩
          rw [hd] at xd
          have hd4 : d < 4 := by omega
          have qd : (d : Int) < 4 := by omega
          obtain ⟨mm, hmm⟩ : ∃ x, bits .and .i64 mk 7 = x := ⟨_, rfl⟩
          clear hkd hdv hmk hmd hhd hd
          have ka := World.grownBy_alloc wr (.cells #[.int .i64 kd, .int .i64 dv, .int .i64 mk, .int .u64 (hd1 : Nat), .int .i64 md] 32) none
          obtain ⟨z, hz⟩ : ∃ b, wr.heap.size = b := ⟨_, rfl⟩
          have H1 : Hid (P1 w (wr.alloc (.cells #[.int .i64 kd, .int .i64 dv, .int .i64 mk, .int .u64 (hd1 : Nat), .int .i64 md] 32)) (fun j => j = ob ∨ j = z) pb qb 4 cp 0 4 4 s) := Lib.hid ((H.out.add _).alt fun j hj => (by rw [hz]; exact hj))
          have HR1 := Lib.hid ((H.out.blk ka rfl).trans HR.out)
          have HZ1 : Hid ((wr.alloc (.cells #[.int .i64 kd, .int .i64 dv, .int .i64 mk, .int .u64 (hd1 : Nat), .int .i64 md] 32)).heap[z]? = some (.cells #[.int .i64 kd, .int .i64 dv, .int .i64 mk, .int .u64 (hd1 : Nat), .int .i64 md] 32 (0, 0))) := Lib.hid (by rw [← hz]; exact heap_alloc_new _ _)
          have CP := Lib.hid (pf_post H1.out.1 d mk hd4)
          have HE1 := HE.out.posted (d := d) cp mk hd4
          simp only [if_true] at HE1
          rw [hmm] at HE1
          have HE2 := Lib.hid HE1
          clear ka H HR HE1 HE
          go_wp2_with fail
          try rw [hz]
          generalize wr.alloc (.cells #[.int .i64 kd, .int .i64 dv, .int .i64 mk, .int .u64 (hd1 : Nat), .int .i64 md] 32) = wa at *
          refine CP.out.mono ?_
          rintro e v1 ⟨rfl, h, kk⟩
          have H2 := Lib.hid (H1.out.step h kk)
          have HR2 := Lib.hid ((H1.out.own kk (Or.inl rfl)).trans HR1.out)
          have HZ2 := Lib.hid ((H1.out.own kk (Or.inr rfl)).trans HZ1.out)
          have z1 := cell_blk HZ2.out 1
          have z2 := cell_blk HZ2.out 2
          simp only [List.getElem?_toArray, List.getElem?_cons_zero, List.getElem?_cons_succ] at z1 z2
          have r1 := (cell_blk HR2.out d).trans (rowI_at 4 R d hd4)
          have f1 := frozen_blk HR2.out d
          have H3 := Lib.hid ((H2.out.alt (B' := fun j => j = ob) fun j hj => Or.inl hj).set rfl d (.int .i64 (bits .or .i64 (R d) mm)))
          have HR3 := blk_setCell v1 ob d (.int .i64 (bits .or .i64 (R d) mm)) _ _ HR2.out
          rw [rowI_set] at HR3
          have HR4 := Lib.hid HR3
          clear h kk CP H1 HR1 HZ1 H2 HR2 HZ2 HR3 c0 c1 c2 c3 c4
          go_wp2_with fail
          go_region
          all_goals
            go_wp2
            go_roundw
            case rel => exact ⟨i + 1, _, _, hlt, by go_num, Lib.hid (H3.out.kept (gd (World.grownBy.refl _ _))), HE2, HR4⟩
            case measure => simp [intOf]; omega
        · obtain rfl : i = len1 := by omega
          clear R0
          by_cases ho4 : od < 4
          · have qo : (od : Int) < 4 := by omega
            have x2 := X2.out
            have CC := Lib.hid (pf_close H.out.1 od ho4)
            have HE1 := HE.out.closed ho4 fun v hv => (H.out.1.nt v hv).1
            have HS : Hid (SetE (sSettle 4 0 4 4 (sClose 0 4 s od)) (upZk R od 0)) := Lib.hid HE1.settled
            have HC := Lib.hid HE1.can
            go_wp2_with fail
            refine CC.out.mono ?_
            rintro e v1 ⟨rfl, h, kk⟩
            have H2 := Lib.hid (H.out.step h kk)
            have HR2 := Lib.hid ((H.out.own kk rfl).trans HR.out)
            have r1 := (cell_blk HR2.out od).trans (rowI_at 4 R od ho4)
            have f1 := frozen_blk HR2.out od
            have H3 := Lib.hid (H2.out.set rfl od (.int .i64 0))
            have HR3 := blk_setCell v1 ob od (.int .i64 0) _ _ HR2.out
            rw [rowI_set] at HR3
            have HR4 := Lib.hid HR3
            clear h kk CC H HE HE1 H2 HR HR2 HR3 x2
            go_wp2_with fail
            go_loopw [79] (fun it wr => ∃ (i : Nat) (s : Ps) (B : Nat → Int), i ≤ 2 ∧ it = .int .i64 i ∧ Hid (P1 w wr (fun j => j = ob) pb qb 4 cp 0 4 4 s) ∧ Hid (SetE (sSettle 4 0 4 4 s) B) ∧ Hid (wr.heap[ob]? = some (.cells (rowI 4 B) 52 (0, 0))) ∧ Hid (∀ j, j < 4 → (bv (B j)).toInt = B j)) (fun it _ => 2 - (intOf it).toNat)
            case atStart => exact ⟨0, _, _, Nat.zero_le _, rfl, H3, HS, HR4, HC⟩
            case round =>
              clear H3 HS HR4 HC
              obtain ⟨i, s, B, hi, rfl, H, HS, HR, HC⟩ := hrel
              by_cases hlt : i < 2
              · have qi : (i : Int) < 2 := by omega
                have CS := Lib.hid (pf_settle H.out.1)
                go_wp2_with fail
                refine CS.out.mono ?_
                rintro e v1 ⟨rfl, h, kk⟩
                have H2 := Lib.hid (H.out.step h kk)
                have HR2 := Lib.hid ((H.out.own kk rfl).trans HR.out)
                clear h kk CS H HR
                generalize sSettle 4 0 4 4 s = s2 at *
                have HI := Lib.hid HS.out.inE
                have HSQ : Hid (∀ j, j < 4 → 0 ≠ B j → j ∈ s2.Q) := Lib.hid fun j hj hb => by
                  rw [HS.out.q]
                  exact List.mem_filter.2 ⟨List.mem_range.2 hj, by simp; exact fun h => hb h.symm⟩
                clear HS
                have ka := World.grownBy_alloc v1 (.cells (rowI 4 (fun _ => 0)) 52) none
                obtain ⟨tb, htb⟩ : ∃ b, v1.heap.size = b := ⟨_, rfl⟩
                have H3 : Hid (P1 w (v1.alloc (.cells (rowI 4 (fun _ => 0)) 52)) (fun j => j = ob ∨ j = tb) pb qb 4 cp 0 4 4 s2) := Lib.hid ((H2.out.add _).alt fun j hj => (by rw [htb]; exact hj))
                have HR3 := Lib.hid ((H2.out.blk ka rfl).trans HR2.out)
                have HT3 : Hid ((v1.alloc (.cells (rowI 4 (fun _ => 0)) 52)).heap[tb]? = some (.cells (rowI 4 (fun _ => 0)) 52 (0, 0))) := Lib.hid (by rw [← htb]; exact heap_alloc_new _ _)
                have hne : ob ≠ tb := by rw [← htb]; exact Nat.ne_of_lt (blk_lt HR2.out)
                have CP := Lib.hid (pf_pop H3.out.1)
                clear ka H2 HR2
                go_wp2_with fail
                rw [ER.out]
                try rw [htb]
                generalize v1.alloc (.cells (rowI 4 (fun _ => 0)) 52) = v2 at *
                clear htb
                refine CP.out.mono ?_
                rintro e v3 ⟨rfl, h, kk⟩
                have H4 := Lib.hid (H3.out.step h kk)
                have HR4 := Lib.hid ((H3.out.own kk (Or.inl rfl)).trans HR3.out)
                have HT4 := Lib.hid ((H3.out.own kk (Or.inr rfl)).trans HT3.out)
                clear h kk CP H3 HR3 HT3
                have ka := World.grownBy_alloc v3 (.cells #[.int .i64 (popI s2.Q).1, .int .i64 (popI s2.Q).2.1] 46) none
                have HP : Hid (((popI s2.Q).2.2 = true → ∃ x : Nat, (popI s2.Q).2.1 = (x : Int) ∧ s2.Q = x :: (sQ s2 s2.Q.tail).Q) ∧ ((popI s2.Q).2.2 = false → s2.Q = [] ∧ (sQ s2 s2.Q.tail).Q = [])) := Lib.hid (by
                  cases hq : s2.Q with
                  | nil => exact ⟨fun h => (by cases h), fun _ => ⟨rfl, rfl⟩⟩
                  | cons x r => exact ⟨fun _ => ⟨x, rfl, rfl⟩, fun h => (by cases h)⟩)
                have HI2 := Lib.hid (HI.out.sQ s2.Q.tail)
                have eT : rowI 4 (fun _ => 0) = rowI 4 (fun j => if j ∈ s2.Q then 0 else B j) := rowI_congr 4 _ _ fun j hj => by
                  have hI := HI.out
                  rcases hI.g j hj with ⟨_, h⟩ | ⟨a, h⟩
                  · rw [h]; simp
                  · by_cases hm : j ∈ s2.Q
                    · rw [if_pos hm]
                    · have := HSQ.out j hj
                      rw [if_neg hm]
                      exact (Classical.byContradiction fun hb => hm (this hb))
                have H5 : Hid (E3 w (v3.alloc (.cells #[.int .i64 (popI s2.Q).1, .int .i64 (popI s2.Q).2.1] 46)) ob tb v3.heap.size pb qb cp (sQ s2 s2.Q.tail) B (fun j => if j ∈ s2.Q then 0 else B j) (popI s2.Q).1 (popI s2.Q).2.1) := Lib.hid
                  ⟨(H4.out.add _).alt fun j hj => (by omega), (H4.out.blk ka (Or.inl rfl)).trans HR4.out, by rw [← eT]; exact (H4.out.blk ka (Or.inr rfl)).trans HT4.out, heap_alloc_new _ _, hne⟩
                clear ka H4 HR4 HT4 eT HI HSQ
                generalize hs3 : sQ s2 s2.Q.tail = s3 at *
                generalize s2.Q = P at *
                generalize (popI P).1 = kz at *
                generalize (popI P).2.1 = iz at *
                generalize (popI P).2.2 = b at *
                clear hs3
                go_wp2_with fail
                generalize v3.heap.size = z at *
                generalize v3.alloc (.cells #[.int .i64 kz, .int .i64 iz] 46) = v4 at *
                go_loopw [14, 15] (fun t ok wr => ∃ (z : Nat) (s : Ps) (P : List Nat) (kz iz : Int) (b : Bool), t = .pointer (some ⟨z, 0, none⟩) ∧ ok = .bool b ∧ Hid (E3 w wr ob tb z pb qb cp s B (fun j => if j ∈ P then 0 else B j) kz iz) ∧ Hid (InE s B P) ∧ Hid ((b = true → ∃ x : Nat, iz = (x : Int) ∧ P = x :: s.Q) ∧ (b = false → P = [] ∧ s.Q = []))) (fun t ok wr => okN ok + qLen wr qb)
                case atStart => exact ⟨z, s3, P, kz, iz, b, rfl, rfl, H5, HI2, HP⟩
                case round =>
                  clear H5 HI2 HP
                  obtain ⟨z, s, P, kz, iz, b, rfl, rfl, H, HI, HP⟩ := hrel
                  cases b
                  · obtain ⟨hP, hQ⟩ := HP.out.2 rfl
                    subst hP
                    have HS2 := Lib.hid (HI.out.again hQ)
                    have eT : (fun j => if j ∈ ([] : List Nat) then (0 : Int) else B j) = B := by funext j; simp
                    rw [eT] at H
                    have cO := fun j hj => (cell_blk H.out.o j).trans (rowI_at 4 B j hj)
                    have cT := fun j hj => (cell_blk H.out.t j).trans (rowI_at 4 B j hj)
                    have o0 := cO 0 (by omega); have o1 := cO 1 (by omega); have o2 := cO 2 (by omega); have o3 := cO 3 (by omega)
                    have t0 := cT 0 (by omega); have t1 := cT 1 (by omega); have t2 := cT 2 (by omega); have t3 := cT 3 (by omega)
                    have f0 := frozen_blk H.out.o 0; have f1 := frozen_blk H.out.o 1; have f2 := frozen_blk H.out.o 2; have f3 := frozen_blk H.out.o 3
                    have H9 := ((((H.out.setO 0 0).setO 1 0).setO 2 0).setO 3 0)
                    have eB : rowI 4 (upZk (upZk (upZk (upZk B 0 0) 1 0) 2 0) 3 0) = rowI 4 (fun _ => 0) := rowI_congr 4 _ _ fun j hj => by
                      unfold upZk
                      have : j = 0 ∨ j = 1 ∨ j = 2 ∨ j = 3 := by omega
                      rcases this with rfl | rfl | rfl | rfl <;> simp
                    have HR9 := Lib.hid (eB ▸ H9.o)
                    have HP9 := Lib.hid (H9.p.alt (B' := fun j => j = ob) fun j hj => Or.inl hj)
                    clear H HI HP cO cT eT H9 eB hQ
                    have eq4' := fun v => eq4 (B 0) (B 1) (B 2) (B 3) v
                    generalize B 0 = b0 at *
                    generalize B 1 = b1 at *
                    generalize B 2 = b2 at *
                    generalize B 3 = b3 at *
                    go_wp2
                    go_roundw
                    case rel => exact ⟨i + 1, _, _, hlt, by go_num, HP9, HS2, HR9, Lib.hid fun j _ => (by decide)⟩
                    case measure => simp [intOf]; omega
                  · obtain ⟨x, rfl, rfl⟩ := HP.out.1 rfl
                    obtain ⟨hx4, hbx⟩ := HI.out.p x (List.mem_cons_self ..)
                    obtain ⟨ht1, ht2, hIn⟩ := HI.out.told
                    have C := pf_tell H.out.p.1 x hx4
                    rw [ht1, ht2] at C
                    have CT := Lib.hid C
                    have HQL := Lib.hid (qLen_po H.out.p.1)
                    have HI2 := Lib.hid hIn
                    have z1 := cell_blk H.out.z 1
                    simp only [List.getElem?_toArray, List.getElem?_cons_zero, List.getElem?_cons_succ] at z1
                    have hxr : x ∉ s.Q := (List.nodup_cons.1 HI.out.d).1
                    clear C ht1 ht2 hIn HP HI
                    have qx : (x : Int) < 4 := by omega
                    have qx0 : ¬ (3 : Int) < (x : Int) := by omega
                    have qx1 : ¬ (x : Int) < 0 := by omega
                    have qc : IntKind.u64.wrap (x : Int) = (x : Int) := by rw [IntKind.wrap_u64]; omega
                    have qc2 : IntKind.u64.wrap ((x : Int) + 1) = (x : Int) + 1 := by rw [IntKind.wrap_u64]; omega
                    have e1 : (B x == 0) = false := by simpa using hbx
                    have e3 : decide (B x = 0) = false := by simpa using hbx
                    have HCB : Hid (bits .or .i64 0 (B x) = B x) := Lib.hid (by rw [or_bv, bv_zero, BitVec.zero_or]; exact HC.out x hx4)
                    have eor := HCB.out
                    clear hbx
                    go_wp2_with fail
                    refine CT.out.mono ?_
                    rintro e v5 ⟨rfl, h, kk⟩
                    have H2 := Lib.hid (H.out.step h kk)
                    have HL2 := Lib.hid (qLen_po H2.out.p.1)
                    clear h kk CT H z1
                    have z0 := cell_blk H2.out.z 0
                    have z1 := cell_blk H2.out.z 1
                    simp only [List.getElem?_toArray, List.getElem?_cons_zero, List.getElem?_cons_succ] at z0 z1
                    have t1 := (cell_blk H2.out.t x).trans (rowI_at 4 _ x hx4)
                    rw [if_pos (List.mem_cons_self ..)] at t1
                    have f1 := frozen_blk H2.out.t x
                    have H3 := H2.out.setT x (B x)
                    have eT : rowI 4 (upZk (fun j => if j ∈ x :: s.Q then 0 else B j) x (B x)) = rowI 4 (fun j => if j ∈ s.Q then 0 else B j) := rowI_congr 4 _ _ fun j hj => by
                      unfold upZk
                      by_cases e : j = x
                      · subst e; rw [if_pos rfl, if_neg hxr]
                      · rw [if_neg e]
                        show (if j ∈ x :: s.Q then 0 else B j) = _
                        by_cases hm : j ∈ s.Q
                        · rw [if_pos (List.mem_cons_of_mem _ hm), if_pos hm]
                        · rw [if_neg (fun h => by rcases List.mem_cons.1 h with h | h; exact e h; exact hm h), if_neg hm]
                    have H3' : Hid (E3 w _ ob tb z pb qb cp (sTell s x) B (fun j => if j ∈ s.Q then 0 else B j) kz (x : Int)) := Lib.hid ⟨H3.p, H3.o, by rw [← eT]; exact H3.t, H3.z, H3.ne⟩
                    have y0 := cell_blk H3'.out.z 0
                    have y1 := cell_blk H3'.out.z 1
                    simp only [List.getElem?_toArray, List.getElem?_cons_zero, List.getElem?_cons_succ] at y0 y1
                    have hsz : (v5.setCell ⟨tb, x, none⟩ (.int .i64 (B x))).heap.size = v5.heap.size := by simp [World.setCell]
                    have H4n := H3'.out.newZ kz (x : Int)
                    rw [hsz] at H4n
                    have H4 := Lib.hid H4n
                    clear H4n hsz
                    have CP := Lib.hid (pf_pop H4.out.p.1)
                    clear H3 eT H2 HL2
                    go_wp2_with fail
                    clear z0 z1 t1 f1 y0 y1 e1 e3 eor
                    generalize hz' : v5.heap.size = z' at *
                    generalize ((v5.setCell ⟨tb, x, none⟩ (.int .i64 (B x))).alloc (.cells #[.int .i64 kz, .int .i64 (x : Int)] 46)) = v6 at *
                    refine CP.out.mono ?_
                    rintro e v7 ⟨rfl, h, kk⟩
                    have H5 := Lib.hid (H4.out.step h kk)
                    have d0 := cell_blk H5.out.z 0
                    have d1 := cell_blk H5.out.z 1
                    have g0 := frozen_blk H5.out.z 0
                    have g1 := frozen_blk H5.out.z 1
                    simp only [List.getElem?_toArray, List.getElem?_cons_zero, List.getElem?_cons_succ] at d0 d1
                    have hQ : (sTell s x).Q = s.Q := rfl
                    rw [hQ] at *
                    have H6 := Lib.hid (H5.out.setZ (popI s.Q).1 (popI s.Q).2.1)
                    have hme : Hid (okN (.bool (popI s.Q).2.2) + qLen ((v7.setCell ⟨z', 0, none⟩ (.int .i64 (popI s.Q).1)).setCell ⟨z', 1, none⟩ (.int .i64 (popI s.Q).2.1)) qb < 1 + qLen wr qb) := Lib.hid (by
                      rw [qLen_po H6.out.p.1, HQL.out]
                      show _ + s.Q.tail.length < _
                      cases s.Q with
                      | nil => show 0 + 0 < 1 + 0; omega
                      | cons y r => show 1 + r.length < 1 + (r.length + 1); omega)
                    have HP6 : Hid (((popI s.Q).2.2 = true → ∃ y : Nat, (popI s.Q).2.1 = (y : Int) ∧ s.Q = y :: (sQ (sTell s x) s.Q.tail).Q) ∧ ((popI s.Q).2.2 = false → s.Q = [] ∧ (sQ (sTell s x) s.Q.tail).Q = [])) := Lib.hid (by
                      cases hq : s.Q with
                      | nil => exact ⟨fun h => (by cases h), fun _ => ⟨rfl, rfl⟩⟩
                      | cons y r => exact ⟨fun _ => ⟨y, rfl, rfl⟩, fun h => (by cases h)⟩)
                    have HI6 := Lib.hid (HI2.out.sQ s.Q.tail)
                    clear h kk CP H4 H5 H3' hz' HQL HI2 hQ hxr
                    generalize (popI s.Q).1 = k9 at *
                    generalize (popI s.Q).2.1 = i9 at *
                    generalize (popI s.Q).2.2 = b9 at *
                    go_wp2
                    go_roundw
                    case rel => exact ⟨z', _, s.Q, k9, i9, b9, rfl, rfl, H6, HI6, HP6⟩
                    case measure => exact hme.out
              · obtain rfl : i = 2 := by omega
                go_wp2
                go_ret
                exact ⟨rfl, H.out.2.1⟩
          · have qo : ¬ (od : Int) < 4 := by omega
            have x2 := X2.out
            have HS : Hid (SetE (sSettle 4 0 4 4 s) R) := Lib.hid HE.out.settled
            have HC := Lib.hid HE.out.can
            clear HE
            go_wp2_with fail
            go_loopw [79] (fun it wr => ∃ (i : Nat) (s : Ps) (B : Nat → Int), i ≤ 2 ∧ it = .int .i64 i ∧ Hid (P1 w wr (fun j => j = ob) pb qb 4 cp 0 4 4 s) ∧ Hid (SetE (sSettle 4 0 4 4 s) B) ∧ Hid (wr.heap[ob]? = some (.cells (rowI 4 B) 52 (0, 0))) ∧ Hid (∀ j, j < 4 → (bv (B j)).toInt = B j)) (fun it _ => 2 - (intOf it).toNat)
            case atStart => exact ⟨0, _, _, Nat.zero_le _, rfl, H, HS, HR, HC⟩
            case round =>
              clear H HS HR HC
              obtain ⟨i, s, B, hi, rfl, H, HS, HR, HC⟩ := hrel
              by_cases hlt : i < 2
              · have qi : (i : Int) < 2 := by omega
                have CS := Lib.hid (pf_settle H.out.1)
                go_wp2_with fail
                refine CS.out.mono ?_
                rintro e v1 ⟨rfl, h, kk⟩
                have H2 := Lib.hid (H.out.step h kk)
                have HR2 := Lib.hid ((H.out.own kk rfl).trans HR.out)
                clear h kk CS H HR
                generalize sSettle 4 0 4 4 s = s2 at *
                have HI := Lib.hid HS.out.inE
                have HSQ : Hid (∀ j, j < 4 → 0 ≠ B j → j ∈ s2.Q) := Lib.hid fun j hj hb => by
                  rw [HS.out.q]
                  exact List.mem_filter.2 ⟨List.mem_range.2 hj, by simp; exact fun h => hb h.symm⟩
                clear HS
                have ka := World.grownBy_alloc v1 (.cells (rowI 4 (fun _ => 0)) 52) none
                obtain ⟨tb, htb⟩ : ∃ b, v1.heap.size = b := ⟨_, rfl⟩
                have H3 : Hid (P1 w (v1.alloc (.cells (rowI 4 (fun _ => 0)) 52)) (fun j => j = ob ∨ j = tb) pb qb 4 cp 0 4 4 s2) := Lib.hid ((H2.out.add _).alt fun j hj => (by rw [htb]; exact hj))
                have HR3 := Lib.hid ((H2.out.blk ka rfl).trans HR2.out)
                have HT3 : Hid ((v1.alloc (.cells (rowI 4 (fun _ => 0)) 52)).heap[tb]? = some (.cells (rowI 4 (fun _ => 0)) 52 (0, 0))) := Lib.hid (by rw [← htb]; exact heap_alloc_new _ _)
                have hne : ob ≠ tb := by rw [← htb]; exact Nat.ne_of_lt (blk_lt HR2.out)
                have CP := Lib.hid (pf_pop H3.out.1)
                clear ka H2 HR2
                go_wp2_with fail
                rw [ER.out]
                try rw [htb]
                generalize v1.alloc (.cells (rowI 4 (fun _ => 0)) 52) = v2 at *
                clear htb
                refine CP.out.mono ?_
                rintro e v3 ⟨rfl, h, kk⟩
                have H4 := Lib.hid (H3.out.step h kk)
                have HR4 := Lib.hid ((H3.out.own kk (Or.inl rfl)).trans HR3.out)
                have HT4 := Lib.hid ((H3.out.own kk (Or.inr rfl)).trans HT3.out)
                clear h kk CP H3 HR3 HT3
                have ka := World.grownBy_alloc v3 (.cells #[.int .i64 (popI s2.Q).1, .int .i64 (popI s2.Q).2.1] 46) none
                have HP : Hid (((popI s2.Q).2.2 = true → ∃ x : Nat, (popI s2.Q).2.1 = (x : Int) ∧ s2.Q = x :: (sQ s2 s2.Q.tail).Q) ∧ ((popI s2.Q).2.2 = false → s2.Q = [] ∧ (sQ s2 s2.Q.tail).Q = [])) := Lib.hid (by
                  cases hq : s2.Q with
                  | nil => exact ⟨fun h => (by cases h), fun _ => ⟨rfl, rfl⟩⟩
                  | cons x r => exact ⟨fun _ => ⟨x, rfl, rfl⟩, fun h => (by cases h)⟩)
                have HI2 := Lib.hid (HI.out.sQ s2.Q.tail)
                have eT : rowI 4 (fun _ => 0) = rowI 4 (fun j => if j ∈ s2.Q then 0 else B j) := rowI_congr 4 _ _ fun j hj => by
                  have hI := HI.out
                  rcases hI.g j hj with ⟨_, h⟩ | ⟨a, h⟩
                  · rw [h]; simp
                  · by_cases hm : j ∈ s2.Q
                    · rw [if_pos hm]
                    · have := HSQ.out j hj
                      rw [if_neg hm]
                      exact (Classical.byContradiction fun hb => hm (this hb))
                have H5 : Hid (E3 w (v3.alloc (.cells #[.int .i64 (popI s2.Q).1, .int .i64 (popI s2.Q).2.1] 46)) ob tb v3.heap.size pb qb cp (sQ s2 s2.Q.tail) B (fun j => if j ∈ s2.Q then 0 else B j) (popI s2.Q).1 (popI s2.Q).2.1) := Lib.hid
                  ⟨(H4.out.add _).alt fun j hj => (by omega), (H4.out.blk ka (Or.inl rfl)).trans HR4.out, by rw [← eT]; exact (H4.out.blk ka (Or.inr rfl)).trans HT4.out, heap_alloc_new _ _, hne⟩
                clear ka H4 HR4 HT4 eT HI HSQ
                generalize hs3 : sQ s2 s2.Q.tail = s3 at *
                generalize s2.Q = P at *
                generalize (popI P).1 = kz at *
                generalize (popI P).2.1 = iz at *
                generalize (popI P).2.2 = b at *
                clear hs3
                go_wp2_with fail
                generalize v3.heap.size = z at *
                generalize v3.alloc (.cells #[.int .i64 kz, .int .i64 iz] 46) = v4 at *
                go_loopw [14, 15] (fun t ok wr => ∃ (z : Nat) (s : Ps) (P : List Nat) (kz iz : Int) (b : Bool), t = .pointer (some ⟨z, 0, none⟩) ∧ ok = .bool b ∧ Hid (E3 w wr ob tb z pb qb cp s B (fun j => if j ∈ P then 0 else B j) kz iz) ∧ Hid (InE s B P) ∧ Hid ((b = true → ∃ x : Nat, iz = (x : Int) ∧ P = x :: s.Q) ∧ (b = false → P = [] ∧ s.Q = []))) (fun t ok wr => okN ok + qLen wr qb)
                case atStart => exact ⟨z, s3, P, kz, iz, b, rfl, rfl, H5, HI2, HP⟩
                case round =>
                  clear H5 HI2 HP
                  obtain ⟨z, s, P, kz, iz, b, rfl, rfl, H, HI, HP⟩ := hrel
                  cases b
                  · obtain ⟨hP, hQ⟩ := HP.out.2 rfl
                    subst hP
                    have HS2 := Lib.hid (HI.out.again hQ)
                    have eT : (fun j => if j ∈ ([] : List Nat) then (0 : Int) else B j) = B := by funext j; simp
                    rw [eT] at H
                    have cO := fun j hj => (cell_blk H.out.o j).trans (rowI_at 4 B j hj)
                    have cT := fun j hj => (cell_blk H.out.t j).trans (rowI_at 4 B j hj)
                    have o0 := cO 0 (by omega); have o1 := cO 1 (by omega); have o2 := cO 2 (by omega); have o3 := cO 3 (by omega)
                    have t0 := cT 0 (by omega); have t1 := cT 1 (by omega); have t2 := cT 2 (by omega); have t3 := cT 3 (by omega)
                    have f0 := frozen_blk H.out.o 0; have f1 := frozen_blk H.out.o 1; have f2 := frozen_blk H.out.o 2; have f3 := frozen_blk H.out.o 3
                    have H9 := ((((H.out.setO 0 0).setO 1 0).setO 2 0).setO 3 0)
                    have eB : rowI 4 (upZk (upZk (upZk (upZk B 0 0) 1 0) 2 0) 3 0) = rowI 4 (fun _ => 0) := rowI_congr 4 _ _ fun j hj => by
                      unfold upZk
                      have : j = 0 ∨ j = 1 ∨ j = 2 ∨ j = 3 := by omega
                      rcases this with rfl | rfl | rfl | rfl <;> simp
                    have HR9 := Lib.hid (eB ▸ H9.o)
                    have HP9 := Lib.hid (H9.p.alt (B' := fun j => j = ob) fun j hj => Or.inl hj)
                    clear H HI HP cO cT eT H9 eB hQ
                    have eq4' := fun v => eq4 (B 0) (B 1) (B 2) (B 3) v
                    generalize B 0 = b0 at *
                    generalize B 1 = b1 at *
                    generalize B 2 = b2 at *
                    generalize B 3 = b3 at *
                    go_wp2
                    go_roundw
                    case rel => exact ⟨i + 1, _, _, hlt, by go_num, HP9, HS2, HR9, Lib.hid fun j _ => (by decide)⟩
                    case measure => simp [intOf]; omega
                  · obtain ⟨x, rfl, rfl⟩ := HP.out.1 rfl
                    obtain ⟨hx4, hbx⟩ := HI.out.p x (List.mem_cons_self ..)
                    obtain ⟨ht1, ht2, hIn⟩ := HI.out.told
                    have C := pf_tell H.out.p.1 x hx4
                    rw [ht1, ht2] at C
                    have CT := Lib.hid C
                    have HQL := Lib.hid (qLen_po H.out.p.1)
                    have HI2 := Lib.hid hIn
                    have z1 := cell_blk H.out.z 1
                    simp only [List.getElem?_toArray, List.getElem?_cons_zero, List.getElem?_cons_succ] at z1
                    have hxr : x ∉ s.Q := (List.nodup_cons.1 HI.out.d).1
                    clear C ht1 ht2 hIn HP HI
                    have qx : (x : Int) < 4 := by omega
                    have qx0 : ¬ (3 : Int) < (x : Int) := by omega
                    have qx1 : ¬ (x : Int) < 0 := by omega
                    have qc : IntKind.u64.wrap (x : Int) = (x : Int) := by rw [IntKind.wrap_u64]; omega
                    have qc2 : IntKind.u64.wrap ((x : Int) + 1) = (x : Int) + 1 := by rw [IntKind.wrap_u64]; omega
                    have e1 : (B x == 0) = false := by simpa using hbx
                    have e3 : decide (B x = 0) = false := by simpa using hbx
                    have HCB : Hid (bits .or .i64 0 (B x) = B x) := Lib.hid (by rw [or_bv, bv_zero, BitVec.zero_or]; exact HC.out x hx4)
                    have eor := HCB.out
                    clear hbx
                    go_wp2_with fail
                    refine CT.out.mono ?_
                    rintro e v5 ⟨rfl, h, kk⟩
                    have H2 := Lib.hid (H.out.step h kk)
                    have HL2 := Lib.hid (qLen_po H2.out.p.1)
                    clear h kk CT H z1
                    have z0 := cell_blk H2.out.z 0
                    have z1 := cell_blk H2.out.z 1
                    simp only [List.getElem?_toArray, List.getElem?_cons_zero, List.getElem?_cons_succ] at z0 z1
                    have t1 := (cell_blk H2.out.t x).trans (rowI_at 4 _ x hx4)
                    rw [if_pos (List.mem_cons_self ..)] at t1
                    have f1 := frozen_blk H2.out.t x
                    have H3 := H2.out.setT x (B x)
                    have eT : rowI 4 (upZk (fun j => if j ∈ x :: s.Q then 0 else B j) x (B x)) = rowI 4 (fun j => if j ∈ s.Q then 0 else B j) := rowI_congr 4 _ _ fun j hj => by
                      unfold upZk
                      by_cases e : j = x
                      · subst e; rw [if_pos rfl, if_neg hxr]
                      · rw [if_neg e]
                        show (if j ∈ x :: s.Q then 0 else B j) = _
                        by_cases hm : j ∈ s.Q
                        · rw [if_pos (List.mem_cons_of_mem _ hm), if_pos hm]
                        · rw [if_neg (fun h => by rcases List.mem_cons.1 h with h | h; exact e h; exact hm h), if_neg hm]
                    have H3' : Hid (E3 w _ ob tb z pb qb cp (sTell s x) B (fun j => if j ∈ s.Q then 0 else B j) kz (x : Int)) := Lib.hid ⟨H3.p, H3.o, by rw [← eT]; exact H3.t, H3.z, H3.ne⟩
                    have y0 := cell_blk H3'.out.z 0
                    have y1 := cell_blk H3'.out.z 1
                    simp only [List.getElem?_toArray, List.getElem?_cons_zero, List.getElem?_cons_succ] at y0 y1
                    have hsz : (v5.setCell ⟨tb, x, none⟩ (.int .i64 (B x))).heap.size = v5.heap.size := by simp [World.setCell]
                    have H4n := H3'.out.newZ kz (x : Int)
                    rw [hsz] at H4n
                    have H4 := Lib.hid H4n
                    clear H4n hsz
                    have CP := Lib.hid (pf_pop H4.out.p.1)
                    clear H3 eT H2 HL2
                    go_wp2_with fail
                    clear z0 z1 t1 f1 y0 y1 e1 e3 eor
                    generalize hz' : v5.heap.size = z' at *
                    generalize ((v5.setCell ⟨tb, x, none⟩ (.int .i64 (B x))).alloc (.cells #[.int .i64 kz, .int .i64 (x : Int)] 46)) = v6 at *
                    refine CP.out.mono ?_
                    rintro e v7 ⟨rfl, h, kk⟩
                    have H5 := Lib.hid (H4.out.step h kk)
                    have d0 := cell_blk H5.out.z 0
                    have d1 := cell_blk H5.out.z 1
                    have g0 := frozen_blk H5.out.z 0
                    have g1 := frozen_blk H5.out.z 1
                    simp only [List.getElem?_toArray, List.getElem?_cons_zero, List.getElem?_cons_succ] at d0 d1
                    have hQ : (sTell s x).Q = s.Q := rfl
                    rw [hQ] at *
                    have H6 := Lib.hid (H5.out.setZ (popI s.Q).1 (popI s.Q).2.1)
                    have hme : Hid (okN (.bool (popI s.Q).2.2) + qLen ((v7.setCell ⟨z', 0, none⟩ (.int .i64 (popI s.Q).1)).setCell ⟨z', 1, none⟩ (.int .i64 (popI s.Q).2.1)) qb < 1 + qLen wr qb) := Lib.hid (by
                      rw [qLen_po H6.out.p.1, HQL.out]
                      show _ + s.Q.tail.length < _
                      cases s.Q with
                      | nil => show 0 + 0 < 1 + 0; omega
                      | cons y r => show 1 + r.length < 1 + (r.length + 1); omega)
                    have HP6 : Hid (((popI s.Q).2.2 = true → ∃ y : Nat, (popI s.Q).2.1 = (y : Int) ∧ s.Q = y :: (sQ (sTell s x) s.Q.tail).Q) ∧ ((popI s.Q).2.2 = false → s.Q = [] ∧ (sQ (sTell s x) s.Q.tail).Q = [])) := Lib.hid (by
                      cases hq : s.Q with
                      | nil => exact ⟨fun h => (by cases h), fun _ => ⟨rfl, rfl⟩⟩
                      | cons y r => exact ⟨fun _ => ⟨y, rfl, rfl⟩, fun h => (by cases h)⟩)
                    have HI6 := Lib.hid (HI2.out.sQ s.Q.tail)
                    clear h kk CP H4 H5 H3' hz' HQL HI2 hQ hxr
                    generalize (popI s.Q).1 = k9 at *
                    generalize (popI s.Q).2.1 = i9 at *
                    generalize (popI s.Q).2.2 = b9 at *
                    go_wp2
                    go_roundw
                    case rel => exact ⟨z', _, s.Q, k9, i9, b9, rfl, rfl, H6, HI6, HP6⟩
                    case measure => exact hme.out
              · obtain rfl : i = 2 := by omega
                go_wp2
                go_ret
                exact ⟨rfl, H.out.2.1⟩
end Go.Proofs.Ytpnipmjjhiaieaa
