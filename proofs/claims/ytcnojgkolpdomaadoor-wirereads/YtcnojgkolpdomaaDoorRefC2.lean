/-
  nightjarref14.Same, Bytes and Read, over this seat's translation.
-/
import Derived.Test.YtcnojgkolpdomaaDoorRefC
import Derived.Laws.IdiomStrings
import Derived.Shelf.Bytes.SlSmallAll
import Derived.WideShapes
namespace Go.Proofs.YtcnojgkolpdomaaDoor
open Go.RowKit Go.Lib
set_option maxRecDepth 100000
set_option linter.unusedVariables false

/-! Bytes as a string. -/
def strB (F : List Nat) : ByteArray := ⟨(F.map UInt8.ofNat).toArray⟩
theorem strB_inj {F G : List Nat} (hF : isB F) (hG : isB G) : ((strB F).toList == (strB G).toList) = decide (F = G) := by
  rw [ByteArray.toList_eq, ByteArray.toList_eq]
  show ((F.map UInt8.ofNat) == (G.map UInt8.ofNat)) = _
  rw [Bool.eq_iff_iff, beq_iff_eq, decide_eq_true_eq]
  constructor
  · intro h
    have := congrArg (fun l => l.map UInt8.toNat) h
    simp only [List.map_map] at this
    have e : ∀ l : List Nat, isB l → l.map (UInt8.toNat ∘ UInt8.ofNat) = l := by
      intro l hl
      conv => rhs; rw [← List.map_id l]
      apply List.map_congr_left
      intro x hx
      have := hl x hx
      simp [UInt8.toNat_ofNat']
      omega
    rwa [e F hF, e G hG] at this
  · rintro rfl; rfl
theorem run_str {w : World} {v : Value} {F : List Nat} (h : ReadsB w v F) : (convert 38 9 v).run Tryd.prog w = .ok (.string (strB F)) w := by
  obtain ⟨a, cap, rfl, h1, h2, h3, h4⟩ := h
  by_cases h0 : F.length = 0
  · have : F = [] := List.eq_nil_of_length_eq_zero h0
    subst this
    exact Go.Proofs.run_convert_bytes_zero w 38 5 Tryd.underlying38 Tryd.underlying5 a cap 9 Tryd.underlying9
  · obtain ⟨b, o, rfl, hb, hc⟩ := h4 (by omega)
    have := run_convert_bytes_back (P := Tryd.prog) w 38 9 5 ⟨b, o, none⟩ cap (F.map UInt8.ofNat) Tryd.underlying38 Tryd.underlying5 Tryd.underlying9 (fun j hj => by
      have hj' : j < F.length := by simpa using hj
      have ea : (⟨b, o, none⟩ : Addr).add j = ⟨b, o + j, none⟩ := by unfold Addr.add; split <;> simp_all
      rw [ea, hc j hj']
      have := h3 _ (List.getElem_mem hj')
      simp [UInt8.toNat_ofNat']
      omega)
    simpa [strB] using this
set_option maxHeartbeats 1000000 in
theorem rsameB {w : World} {va vb : Value} {F G : List Nat} (ha : ReadsB w va F) (hb : ReadsB w vb G) :
    Calls Tryd.prog 23 #[va, vb] w fun e w' => e = .returned (.bool (decide (F = G))) ∧ w = w' := by
  have hF : isB F := by obtain ⟨_, _, _, _, _, h, _⟩ := ha; exact h
  have hG : isB G := by obtain ⟨_, _, _, _, _, h, _⟩ := hb; exact h
  have e := strB_inj hF hG
  have c1 := run_str ha
  have c2 := run_str hb
  rw [← e]
  go_enter Tryd.func23, Tryd.ntmps23
  go_wp2
  go_ret
  exact ⟨by simp [e], rfl⟩

theorem lit_row (w : World) (B : Nat) (F : List Nat) (C : Array Value) (n : Nat) (hC : C = (bys F).toArray) (hn : n = F.length) (hB : B ≤ w.heap.size) (hl : F.length ≤ 1000) : BRow (w.alloc (.cells C 5)) B (.slice (some ⟨w.heap.size, 0, none⟩) n n) F := by
  subst hC hn
  exact ⟨by simp [bys], Or.inr ⟨w.heap.size, F.length, (bys F).toArray, rfl, hB, by show (w.heap.push _)[w.heap.size]? = _; exact Array.getElem?_push_size, Nat.le_refl _, by unfold maxLen; omega, by simp [bys], by rw [Nat.mul_one]; exact List.take_of_length_le (by simp [bys])⟩⟩
theorem src_put {w' : World} {B : Nat} {v' : Value} {F G : List Nat} (hown : w'.ownsRow B 5 1 v' (F.length + G.length) (bys F ++ bys G)) : BRow w' B v' (F ++ G) := by
  unfold BRow
  rw [List.length_append, ← bys_add]
  exact hown
theorem Grew.own {w w' : World} {B : Nat} {v v' : Value} {F : List Nat} (hg : w.grownBy w' v.ownBlock) (hat : v'.ownBlock = v.ownBlock ∨ v'.ownBlock = some w.heap.size) : Grew w w' v v' :=
  ⟨hg, by rcases hat with h | h; exact Or.inl h; exact Or.inr ⟨_, h, Nat.le_refl _⟩⟩

set_option maxHeartbeats 2000000 in
theorem rbytes (w : World) (x : Cl) (hs : smC x) (ho : okC x = true) :
    Calls Tryd.prog 24 #[x.val] w fun e w' => ∃ v', e = .returned v' ∧ BRow w' w.heap.size v' (cb x) ∧ w.grownBy w' none := by
  obtain ⟨h0, h13⟩ := okC_op ho
  obtain ⟨op, a, b, c⟩ := x
  simp only at h0 h13
  obtain ⟨k, rfl⟩ : ∃ k : Nat, op = (k : Int) := ⟨op.toNat, by omega⟩
  obtain ⟨ha, hb, hc⟩ := hs
  simp only at ha hb hc
  have hcb : cb ⟨(k : Int), a, b, c⟩ = (([k] ++ nb 8 a) ++ nb 8 b) ++ nb 8 c := by simp [cb]
  rw [hcb]
  have HL : Hid (∀ n, (nb 8 n).length = 8 ∧ isB (nb 8 n)) := Lib.hid (fun n => ⟨nb_len 8 n, nb_isB 8 n⟩)
  have hw8 : IntKind.u8.wrap (k : Int) = (k : Int) := by rw [wrap8]; omega
  have CP := Lib.hid (fun n hn w => rput w n hn)
  have k1 := World.grownBy_alloc w (.cells #[.int .i64 (k : Int), .int .u64 (a : Nat), .int .u64 (b : Nat), .int .u64 (c : Nat)] 24) none
  clear ho hcb
  unfold Cl.val
  simp only
  obtain ⟨i0, hi0, hz0, hz1, hz2⟩ := byte_info
  have I0 := Lib.hid hi0
  have I1 := Lib.hid hz0
  have I2 := Lib.hid hz1
  have I3 := Lib.hid hz2
  clear hi0 hz0 hz1 hz2
  obtain ⟨A, hA⟩ : ∃ A, A = nb 8 a := ⟨_, rfl⟩
  obtain ⟨B2, hB2⟩ : ∃ B2, B2 = nb 8 b := ⟨_, rfl⟩
  obtain ⟨C2, hC2⟩ : ∃ C2, C2 = nb 8 c := ⟨_, rfl⟩
  have PA := Lib.hid (hA ▸ CP.out a ha : ∀ w : World, Calls Tryd.prog 39 #[.int .u64 (a : Int)] w fun e w' => ∃ v', e = .returned v' ∧ BRow w' w.heap.size v' A ∧ w.grownBy w' none)
  have PB := Lib.hid (hB2 ▸ CP.out b hb : ∀ w : World, Calls Tryd.prog 39 #[.int .u64 (b : Int)] w fun e w' => ∃ v', e = .returned v' ∧ BRow w' w.heap.size v' B2 ∧ w.grownBy w' none)
  have PC := Lib.hid (hC2 ▸ CP.out c hc : ∀ w : World, Calls Tryd.prog 39 #[.int .u64 (c : Int)] w fun e w' => ∃ v', e = .returned v' ∧ BRow w' w.heap.size v' C2 ∧ w.grownBy w' none)
  have LA := Lib.hid (hA ▸ HL.out a : A.length = 8 ∧ isB A)
  have LB := Lib.hid (hB2 ▸ HL.out b : B2.length = 8 ∧ isB B2)
  have LC := Lib.hid (hC2 ▸ HL.out c : C2.length = 8 ∧ isB C2)
  rw [← hA, ← hB2, ← hC2]
  clear hA hB2 hC2 CP HL
  go_enter Tryd.func24, Tryd.ntmps24
  go_wp2_with fail
  obtain ⟨X, hX⟩ : ∃ X, X = w.heap.size := ⟨_, rfl⟩
  have k1' := k1.trans (World.grownBy_alloc (w.alloc (.cells #[.int .i64 (k : Int), .int .u64 (a : Nat), .int .u64 (b : Nat), .int .u64 (c : Nat)] 24)) (.cells #[.int .u8 (k : Int)] 5) none)
  have R0 := lit_row (w.alloc (.cells #[.int .i64 (k : Int), .int .u64 (a : Nat), .int .u64 (b : Nat), .int .u64 (c : Nat)] 24)) (X + 1) [k] #[.int .u8 (k : Int)] 1 rfl rfl (by rw [hX]; simp) (by simp)
  rw [show (w.alloc (.cells #[.int .i64 (k : Int), .int .u64 (a : Nat), .int .u64 (b : Nat), .int .u64 (c : Nat)] 24)).heap.size = X + 1 by rw [hX]; simp] at R0
  have xb : ∀ i, ((w.alloc (.cells #[.int .i64 (k : Int), .int .u64 (a : Nat), .int .u64 (b : Nat), .int .u64 (c : Nat)] 24)).alloc (.cells #[.int .u8 (k : Int)] 5)).cell? ⟨X, i, none⟩ = (#[Value.int .i64 (k : Int), .int .u64 (a : Nat), .int .u64 (b : Nat), .int .u64 (c : Nat)])[i]? := fun i => by
    rw [hX]
    exact ((World.grownBy_alloc _ _ none).cell_far ⟨w.heap.size, i, none⟩ (by simp) (by simp)).trans (World.cell?_alloc_new ..)
  have x1 := xb 1
  have x2 := xb 2
  have x3 := xb 3
  simp only [List.getElem?_toArray, List.getElem?_cons_zero, List.getElem?_cons_succ] at x1 x2 x3
  have hsx : X + 1 < ((w.alloc (.cells #[.int .i64 (k : Int), .int .u64 (a : Nat), .int .u64 (b : Nat), .int .u64 (c : Nat)] 24)).alloc (.cells #[.int .u8 (k : Int)] 5)).heap.size := by rw [hX]; simp
  rw [← hX]
  generalize ((w.alloc (.cells #[.int .i64 (k : Int), .int .u64 (a : Nat), .int .u64 (b : Nat), .int .u64 (c : Nat)] 24)).alloc (.cells #[.int .u8 (k : Int)] 5)) = wa0 at *
  obtain ⟨va0, hva⟩ : ∃ va0, va0 = Value.slice (some ⟨X + 1, 0, none⟩) 1 1 := ⟨_, rfl⟩
  rw [← hva] at R0 ⊢
  obtain ⟨P0, hP0⟩ : ∃ P0, P0 = [k] := ⟨_, rfl⟩
  have HP0 := Lib.hid hP0
  have hlen0 : P0.length ≤ 100 := by rw [hP0]; simp
  rw [← hP0] at R0
  clear hva xb k1 hP0
  have HX := Lib.hid hX
  have hXw : w.heap.size ≤ X + 1 := by omega
  have KA0 := Lib.hid k1'
  clear k1' hX
  refine (PA.out _).mono ?_
  rintro e wb0 ⟨vb0, rfl, q0, T0⟩
  have hl0 := LA.out.1
  have Rb0 := R0.grown T0
  have sr0 := (q0.reads LA.out.2).src (by omega)
  have hbs0 : X + 1 ≤ wb0.heap.size := by have := T0.size; omega
  have z10 := (T0.cell_far ⟨X, 1, none⟩ (by show X < _; omega) (by simp)).trans x1
  have z20 := (T0.cell_far ⟨X, 2, none⟩ (by show X < _; omega) (by simp)).trans x2
  have z30 := (T0.cell_far ⟨X, 3, none⟩ (by show X < _; omega) (by simp)).trans x3
  clear x1 x2 x3 PA
  go_wp2_with (
  at_builtin
  refine wpList_append_src _ rfl _ _ 38 rfl (X + 1) 5 i0 (.int .u8 0) 1 1 Tryd.underlying38 I0.out I1.out I2.out I3.out rfl (by decide) va0 (P0).length (bys (P0)) rfl Rb0 vb0 (A).length (bys A) rfl sr0 (by unfold maxLen; omega) (by omega) hbs0 ?_
  intro va1 wa1 hown0 hg0 hnil0 hat0
  obtain ⟨P1, hP1⟩ : ∃ P, P = P0 ++ A := ⟨_, rfl⟩
  have R1 : BRow wa1 (X + 1) va1 P1 := by rw [hP1]; exact src_put hown0
  have hlen1 : P1.length ≤ 108 := by rw [hP1, List.length_append]; omega
  have HP1 := Lib.hid hP1
  have ho0 := fun r (h : va0.ownBlock = some r) => (Rb0.own r h).1
  have ne0 : some X ≠ va0.ownBlock := fun h => by have := ho0 X h.symm; omega
  have x1 := (hg0.cell_far ⟨X, 1, none⟩ (by show X < _; omega) ne0).trans z10
  have x2 := (hg0.cell_far ⟨X, 2, none⟩ (by show X < _; omega) ne0).trans z20
  have x3 := (hg0.cell_far ⟨X, 3, none⟩ (by show X < _; omega) ne0).trans z30
  have hsx1 : X + 1 < wa1.heap.size := by have := hg0.size; have := T0.size; omega
  have KA1 := Lib.hid (grow_own (KA0.out.trans T0) Rb0 hXw hg0)
  clear hP1 hown0 hg0 hnil0 hat0 Rb0 sr0 z10 z20 z30 ho0 ne0 hbs0 q0 T0 R0 KA0 hl0 hlen0
  )
  refine (PB.out _).mono ?_
  rintro e wb1 ⟨vb1, rfl, q1, T1⟩
  have hl1 := LB.out.1
  have Rb1 := R1.grown T1
  have sr1 := (q1.reads LB.out.2).src (by omega)
  have hbs1 : X + 1 ≤ wb1.heap.size := by have := T1.size; omega
  have z11 := (T1.cell_far ⟨X, 1, none⟩ (by show X < _; omega) (by simp)).trans x1
  have z21 := (T1.cell_far ⟨X, 2, none⟩ (by show X < _; omega) (by simp)).trans x2
  have z31 := (T1.cell_far ⟨X, 3, none⟩ (by show X < _; omega) (by simp)).trans x3
  clear x1 x2 x3 PB
  go_wp2_with (
  at_builtin
  refine wpList_append_src _ rfl _ _ 38 rfl (X + 1) 5 i0 (.int .u8 0) 1 1 Tryd.underlying38 I0.out I1.out I2.out I3.out rfl (by decide) va1 (P1).length (bys (P1)) rfl Rb1 vb1 (B2).length (bys B2) rfl sr1 (by unfold maxLen; omega) (by omega) hbs1 ?_
  intro va2 wa2 hown1 hg1 hnil1 hat1
  obtain ⟨P2, hP2⟩ : ∃ P, P = P1 ++ B2 := ⟨_, rfl⟩
  have R2 : BRow wa2 (X + 1) va2 P2 := by rw [hP2]; exact src_put hown1
  have hlen2 : P2.length ≤ 116 := by rw [hP2, List.length_append]; omega
  have HP2 := Lib.hid hP2
  have ho1 := fun r (h : va1.ownBlock = some r) => (Rb1.own r h).1
  have ne1 : some X ≠ va1.ownBlock := fun h => by have := ho1 X h.symm; omega
  have x1 := (hg1.cell_far ⟨X, 1, none⟩ (by show X < _; omega) ne1).trans z11
  have x2 := (hg1.cell_far ⟨X, 2, none⟩ (by show X < _; omega) ne1).trans z21
  have x3 := (hg1.cell_far ⟨X, 3, none⟩ (by show X < _; omega) ne1).trans z31
  have hsx2 : X + 1 < wa2.heap.size := by have := hg1.size; have := T1.size; omega
  have KA2 := Lib.hid (grow_own (KA1.out.trans T1) Rb1 hXw hg1)
  clear hP2 hown1 hg1 hnil1 hat1 Rb1 sr1 z11 z21 z31 ho1 ne1 hbs1 q1 T1 R1 KA1 hl1 hlen1
  )
  refine (PC.out _).mono ?_
  rintro e wb2 ⟨vb2, rfl, q2, T2⟩
  have hl2 := LC.out.1
  have Rb2 := R2.grown T2
  have sr2 := (q2.reads LC.out.2).src (by omega)
  have hbs2 : X + 1 ≤ wb2.heap.size := by have := T2.size; omega
  have z12 := (T2.cell_far ⟨X, 1, none⟩ (by show X < _; omega) (by simp)).trans x1
  have z22 := (T2.cell_far ⟨X, 2, none⟩ (by show X < _; omega) (by simp)).trans x2
  have z32 := (T2.cell_far ⟨X, 3, none⟩ (by show X < _; omega) (by simp)).trans x3
  clear x1 x2 x3 PC
  go_wp2_with (
  at_builtin
  refine wpList_append_src _ rfl _ _ 38 rfl (X + 1) 5 i0 (.int .u8 0) 1 1 Tryd.underlying38 I0.out I1.out I2.out I3.out rfl (by decide) va2 (P2).length (bys (P2)) rfl Rb2 vb2 (C2).length (bys C2) rfl sr2 (by unfold maxLen; omega) (by omega) hbs2 ?_
  intro va3 wa3 hown2 hg2 hnil2 hat2
  obtain ⟨P3, hP3⟩ : ∃ P, P = P2 ++ C2 := ⟨_, rfl⟩
  have R3 : BRow wa3 (X + 1) va3 P3 := by rw [hP3]; exact src_put hown2
  have hlen3 : P3.length ≤ 124 := by rw [hP3, List.length_append]; omega
  have HP3 := Lib.hid hP3
  have ho2 := fun r (h : va2.ownBlock = some r) => (Rb2.own r h).1
  have ne2 : some X ≠ va2.ownBlock := fun h => by have := ho2 X h.symm; omega
  have x1 := (hg2.cell_far ⟨X, 1, none⟩ (by show X < _; omega) ne2).trans z12
  have x2 := (hg2.cell_far ⟨X, 2, none⟩ (by show X < _; omega) ne2).trans z22
  have x3 := (hg2.cell_far ⟨X, 3, none⟩ (by show X < _; omega) ne2).trans z32
  have hsx3 : X + 1 < wa3.heap.size := by have := hg2.size; have := T2.size; omega
  have KA3 := Lib.hid (grow_own (KA2.out.trans T2) Rb2 hXw hg2)
  clear hP3 hown2 hg2 hnil2 hat2 Rb2 sr2 z12 z22 z32 ho2 ne2 hbs2 q2 T2 R2 KA2 hl2 hlen2
  )
  go_ret
  rw [show k :: (A ++ B2 ++ C2) = P3 by rw [HP3.out, HP2.out, HP1.out, HP0.out]; simp]
  exact ⟨_, rfl, R3.mono (by rw [HX.out]; omega), KA3.out⟩
end Go.Proofs.YtcnojgkolpdomaaDoor
