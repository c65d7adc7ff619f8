/-
  call.Bytes, over this seat's translation: a right call's bytes.
-/
import Derived.Test.YtcnojgkolpdomaaDoorCall3
namespace Go.Proofs.YtcnojgkolpdomaaDoor
open Go.RowKit Go.Lib
set_option maxRecDepth 100000
set_option linter.unusedVariables false

theorem three_info : (Tryd.prog.info? 46).map (·.size) = some 3 := by kernel_rfl
theorem u64_one : (Tryd.prog.info? 22).map (·.size) = some 1 := by kernel_rfl
theorem index_three {rest : List Oper} {ops : Array Oper} {dst : Option Nat} {tt : TypeId} {ps : String} {af : Array Edge} {x i : Operand} {f : Act} {w : World} {Q : Exit → Act → World → Prop} (a : Array Value) (j : Nat) (v : Value) (hj : j < 3) (ha : a[j]? = some v)
    (hx : f.eval x = .agg a) (hi : f.eval i = .int .i64 (j : Int)) (hyp : wpList Tryd.prog ops Q rest (f.put dst v) w) :
    wpList Tryd.prog ops Q ({ dst := dst, op := .index 46 x i, type := tt, pos := ps, after := af, guard := none } :: rest) f w := by
  refine wpList_plain rfl fun K hK => ?_
  have hlt : (0 : Int) ≤ (j : Int) ∧ (j : Int) < (3 : Nat) := by omega
  have hrun : (Instr.index 46 (.agg a) (.int .i64 (j : Int))).run Tryd.prog w = .ok v w := by
    cases hq : Tryd.prog.info? 22 with
    | none => have := u64_one; simp [hq] at this
    | some info =>
      have h1 : info.size = 1 := by have := u64_one; simpa [hq] using this
      simp [Instr.index, asIntOf, run_underlying Tryd.underlying46 w, hj, sizeOf, typeInfo, hq, h1, part, run_underlying Tryd.underlying22 w, isAgg, ha]
  unfold Oper.wp execOp
  simp only [hx, hi, Sem.run_bind, hrun, Result.andThen_ok, Sem.run_pure]
  exact hK _ _ hyp

/-- A call's first numbers as bytes, behind its kind. -/
def pf (k : Nat) (g : Nat → Nat) : Nat → List Nat
  | 0 => [k]
  | j + 1 => pf k g j ++ nb 8 (g j)
theorem pf_len (k : Nat) (g : Nat → Nat) : ∀ j, (pf k g j).length = 1 + 8 * j
  | 0 => rfl
  | j + 1 => by rw [pf, List.length_append, pf_len k g j, nb_len]; omega
theorem pf_cb (k a b c : Nat) (g : Nat → Nat) (h0 : g 0 = a) (h1 : g 1 = b) (h2 : g 2 = c) : pf k g 3 = cb ⟨(k : Int), a, b, c⟩ := by
  simp [pf, cb, h0, h1, h2]

set_option maxHeartbeats 2000000 in
theorem cbytes_no {w : World} (x : Cl) (hs : smC x) (HT : FormsAt w) (ho : okC x = false) :
    Calls Tryd.prog 22 #[x.val] w fun e w' => e = .returned (.tuple #[.slice none 0 0, .bool false]) ∧ w.grownBy w' none := by
  have k1 := World.grownBy_alloc w (.cells #[.int .i64 x.op, .int .u64 (x.a : Nat), .int .u64 (x.b : Nat), .int .u64 (x.c : Nat)] 24) none
  have C1 := Lib.hid (cright x hs (HT.kept k1))
  rw [ho] at C1
  clear HT ho hs
  unfold Cl.val at *
  go_enter Tryd.func22, Tryd.ntmps22
  go_wp2_with fail
  refine C1.out.mono ?_
  rintro e w1 ⟨rfl, g1⟩
  have G1 := Lib.hid (k1.trans g1)
  clear g1 C1 k1
  go_wp2
  go_ret2
  exact ⟨rfl, G1.out⟩

set_option maxHeartbeats 2000000 in
theorem cbytes_ok {w : World} (x : Cl) (hs : smC x) (HT : FormsAt w) (ho : okC x = true) :
    Calls Tryd.prog 22 #[x.val] w fun e w' => ∃ v', e = .returned (.tuple #[v', .bool true]) ∧ BRow w' w.heap.size v' (cb x) ∧ w.grownBy w' none := by
  obtain ⟨h0, h13⟩ := okC_op ho
  obtain ⟨op, a, b, c⟩ := x
  simp only at h0 h13
  obtain ⟨k, rfl⟩ : ∃ k : Nat, op = (k : Int) := ⟨op.toNat, by omega⟩
  have k1 := World.grownBy_alloc w (.cells #[.int .i64 (k : Int), .int .u64 (a : Nat), .int .u64 (b : Nat), .int .u64 (c : Nat)] 24) none
  have C1 := Lib.hid (cright _ hs (HT.kept k1))
  rw [ho] at C1
  obtain ⟨ha, hb, hc⟩ := hs
  simp only at ha hb hc
  have C2 := Lib.hid (fun w1 => cnumbers w1 (k : Int) a b c)
  obtain ⟨g, hg0, hg1, hg2⟩ : ∃ g : Nat → Nat, g 0 = a ∧ g 1 = b ∧ g 2 = c := ⟨fun i => if i = 0 then a else if i = 1 then b else c, rfl, rfl, rfl⟩
  rw [← pf_cb k a b c g hg0 hg1 hg2]
  have hgl : ∀ j, j < 3 → g j < 18446744073709551616 := by
    intro j hj
    match j, hj with
    | 0, _ => rw [hg0]; exact ha
    | 1, _ => rw [hg1]; exact hb
    | 2, _ => rw [hg2]; exact hc
  have hga : ∀ j, j < 3 → (#[Value.int .u64 (a : Nat), .int .u64 (b : Nat), .int .u64 (c : Nat)] : Array Value)[j]? = some (.int .u64 (g j : Nat)) := by
    intro j hj
    match j, hj with
    | 0, _ => rw [hg0]; rfl
    | 1, _ => rw [hg1]; rfl
    | 2, _ => rw [hg2]; rfl
  have HGL := Lib.hid hgl
  have HGA := Lib.hid hga
  clear HT ho hgl hga hg0 hg1 hg2
  unfold Cl.val at *
  simp only at *
  obtain ⟨i0, hi0, hz0, hz1, hz2⟩ := byte_info
  have I0 := Lib.hid hi0
  have I1 := Lib.hid hz0
  have I2 := Lib.hid hz1
  have I3 := Lib.hid hz2
  clear hi0 hz0 hz1 hz2
  obtain ⟨B, hB⟩ : ∃ B, B = w.heap.size := ⟨_, rfl⟩
  have HB := Lib.hid hB
  go_enter Tryd.func22, Tryd.ntmps22
  go_wp2_with fail
  refine C1.out.mono ?_
  rintro e w1 ⟨rfl, g1⟩
  have hs1 : w.heap.size < w1.heap.size := by have := g1.size; simp at this; omega
  have bx : ∀ j, w1.cell? ⟨w.heap.size, j, none⟩ = (w.alloc (.cells #[.int .i64 (k : Int), .int .u64 (a : Nat), .int .u64 (b : Nat), .int .u64 (c : Nat)] 24)).cell? ⟨w.heap.size, j, none⟩ := fun j => g1.cell_far ⟨w.heap.size, j, none⟩ (by simp) (by simp)
  have x0 : w1.cell? ⟨w.heap.size, 0, none⟩ = some (.int .i64 (k : Int)) := (bx 0).trans (World.cell?_alloc_new ..)
  have x1 : w1.cell? ⟨w.heap.size, 1, none⟩ = some (.int .u64 (a : Nat)) := (bx 1).trans (World.cell?_alloc_new ..)
  have x2 : w1.cell? ⟨w.heap.size, 2, none⟩ = some (.int .u64 (b : Nat)) := (bx 2).trans (World.cell?_alloc_new ..)
  have x3 : w1.cell? ⟨w.heap.size, 3, none⟩ = some (.int .u64 (c : Nat)) := (bx 3).trans (World.cell?_alloc_new ..)
  have hmk : ∀ W : World, (Instr.makeSlice 38 (.int .i64 0) (.int .i64 25)).run Tryd.prog W = _ := fun W => make_bytes 0 25 (by omega) (by omega) W
  have k2 := World.grownBy_alloc w1 (.cells (madeCells #[.int .u8 0] 25) 5) none
  have hown : (w1.alloc (.cells (madeCells #[.int .u8 0] 25) 5)).ownsRow w1.heap.size 5 1 (.slice (some ⟨w1.heap.size, 0, none⟩) 0 25) 0 [] := make_brow w1 w1.heap.size 25 (Nat.le_refl _) (by decide)
  have hw8 : IntKind.u8.wrap (k : Int) = (k : Int) := by rw [wrap8]; omega
  have G1 := Lib.hid (k1.trans g1)
  clear g1 C1 bx k1
  go_wp2_with (
  at_builtin
  refine wpList_append_own_at _ rfl _ _ 38 rfl w1.heap.size 5 i0 (.int .u8 0) 1 1 Tryd.underlying38 I0.out I1.out I2.out I3.out rfl (by decide) (.slice (some ⟨w1.heap.size, 0, none⟩) 0 25) _ _ rfl (World.ownsRow.alloc hown _) ⟨_, 0, none⟩ 1 1 [.int .u8 (k:Int)] rfl rfl (cell_one_at _ _ _ _ (by first | rfl | simp)) (fun x hx => by simp at hx; subst hx; rfl) (by unfold maxLen; omega) (by omega) (by simp; omega) ?_
  intro v' w5 hown' hgrow3 hnil3 hat0
  have hgr : (World.alloc ((w1.alloc (.cells (madeCells #[.int .u8 0] 25) 5))) (.cells #[.int .u8 (k:Int)] 5)).grownBy w5 (Value.ownBlock (.slice (some ⟨w1.heap.size, 0, none⟩) 0 25)) := hgrow3
  have hat1 : v'.ownBlock = Value.ownBlock (.slice (some ⟨w1.heap.size, 0, none⟩) 0 25) ∨ v'.ownBlock = some (World.alloc ((w1.alloc (.cells (madeCells #[.int .u8 0] 25) 5))) (.cells #[.int .u8 (k:Int)] 5)).heap.size := hat0
  clear hgrow3 hat0
  obtain ⟨h5, g5⟩ := byte_put (F := []) (k := k) hown' rfl hgr hat1
  have HB5 := Lib.hid h5
  have HG5 := Lib.hid (grow_own (G1.out.trans k2) (make_brow w1 w1.heap.size 25 (Nat.le_refl _) (by decide)) (Nat.le_of_lt hs1) g5.g)
  have HS5 := Lib.hid (Nat.le_trans k2.size g5.g.size)
  have hs5 : w.heap.size < w5.heap.size := by have := k2.size; have := g5.g.size; omega
  have by5 : ∀ j, w5.cell? ⟨w.heap.size, j, none⟩ = w1.cell? ⟨w.heap.size, j, none⟩ := fun j => (g5.g.cell_far ⟨w.heap.size, j, none⟩ (Nat.lt_of_lt_of_le hs1 k2.size) (by simp [Value.ownBlock]; omega)).trans (k2.cell_far ⟨w.heap.size, j, none⟩ hs1 (by simp))
  replace x0 := (by5 0).trans x0
  replace x1 := (by5 1).trans x1
  replace x2 := (by5 2).trans x2
  replace x3 := (by5 3).trans x3
  clear by5 hown' hgr hat1 h5 g5 hnil3 hown k2 hmk hw8
  )
  refine (C2.out _).mono ?_
  rintro e w6 ⟨rfl, g6⟩
  have hown6 : BRow w6 w1.heap.size v' (pf k g 0) := HB5.out.grown g6
  have HG6 := Lib.hid (HG5.out.trans g6)
  have hB6 : w1.heap.size ≤ w6.heap.size := Nat.le_trans HS5.out g6.size
  obtain ⟨a3, ha3⟩ : ∃ a3 : Array Value, a3 = #[.int .u64 (a : Nat), .int .u64 (b : Nat), .int .u64 (c : Nat)] := ⟨_, rfl⟩
  rw [← ha3] at HGA ⊢
  clear ha3 g6 HB5 HG5 HS5 hs5 x0 x1 x2 x3 C2
  go_wp2
  go_loopw [4, 19] (fun av iv wr => ∃ j : Nat, j ≤ 3 ∧ iv = .int .i64 (j : Int) ∧ BRow wr w1.heap.size av (pf k g j) ∧ w.grownBy wr none ∧ w1.heap.size ≤ wr.heap.size) (fun _ iv _ => 3 - (intOf iv).toNat)
  case atStart => exact ⟨0, by decide, rfl, hown6, HG6.out, hB6⟩
  case round =>
    obtain ⟨j, hj, rfl, hown, hG, hBr⟩ := hrel
    clear hown6 HG6 hB6
    by_cases hlt : j < 3
    · have hgj := HGA.out j hlt
      have hlen := pf_len k g j
      have HX := Lib.hid (show Hid _ from Lib.hid (cappend (g j) hown (HGL.out j hlt) (by omega) hBr))
      have HO := Lib.hid hown
      have HG7 := Lib.hid hG
      have hpf : Hid (pf k g (j + 1) = pf k g j ++ nb 8 (g j)) := Lib.hid rfl
      generalize pf k g j = P at *
      generalize g j = y at *
      clear hown hG
      go_wp2_with (refine index_three a3 j _ hlt hgj rfl rfl ?_)
      refine HX.out.out.mono ?_
      rintro e w7 ⟨v7, rfl, o7, g7⟩
      have HO7 := Lib.hid o7
      have HG8 := Lib.hid (grow_own HG7.out HO.out (Nat.le_of_lt hs1) g7.g)
      have HS7 := Lib.hid (Nat.le_trans hBr g7.g.size)
      clear o7 g7 HX
      go_wp2
      go_roundw
      case rel => exact ⟨j + 1, by omega, by go_num, by rw [hpf.out]; exact HO7.out, HG8.out, HS7.out⟩
      case measure => simp [intOf]; omega
    · obtain rfl : j = 3 := by omega
      go_wp2
      go_ret2
      exact ⟨_, rfl, hown.mono (Nat.le_of_lt hs1), hG⟩
end Go.Proofs.YtcnojgkolpdomaaDoor
