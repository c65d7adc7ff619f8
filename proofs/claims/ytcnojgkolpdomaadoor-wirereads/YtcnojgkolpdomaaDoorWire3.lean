/-
  wire.bytesOf, over this seat's translation: a right entry's bytes.
-/
import Derived.Test.YtcnojgkolpdomaaDoorWire1
import Derived.Test.YtcnojgkolpdomaaDoorRefC2
namespace Go.Proofs.YtcnojgkolpdomaaDoor
open Go.RowKit Go.Lib
set_option maxRecDepth 100000
set_option linter.unusedVariables false

theorem lit_at (w : World) (B : Nat) (F : List Nat) (C : Array Value) (n q : Nat) (hC : C = (bys F).toArray) (hn : n = F.length) (hB : B ≤ w.heap.size) (hl : F.length ≤ 1000) (hq : q = w.heap.size) : BRow (w.alloc (.cells C 5)) B (.slice (some ⟨q, 0, none⟩) n n) F := by
  subst hq
  exact lit_row w B F C n hC hn hB hl

set_option maxHeartbeats 4000000 in
theorem wbytesOf {w : World} (e : En) (hs : smC e.call) (HT : FormsAt w) (ho : okE e = true) :
    Calls Tryd.prog 43 #[e.val] w fun r w' => ∃ v, r = .returned v ∧ BRow w' w.heap.size v (eb e) ∧ w.grownBy w' none := by
  obtain ⟨i0, hi0, hz0, hz1, hz2⟩ := byte_info
  have I0 := Lib.hid hi0
  have I1 := Lib.hid hz0
  have I2 := Lib.hid hz1
  have I3 := Lib.hid hz2
  clear hi0 hz0 hz1 hz2
  obtain ⟨k, who, n, ⟨op, a, b, c⟩, d, m⟩ := e
  rcases okE_cases ho with ⟨hk, h1, h2, h3, h4, h5, h6⟩ | ⟨hk, h1, h2, h3, h4, h5, h6⟩ | ⟨hk, h1, h2, h3, h4, h5, h6, h7, h8⟩
  · simp only at hk h1 h2
    subst hk
    obtain ⟨j, rfl⟩ : ∃ j : Nat, n = (j : Int) := ⟨n.toNat, by omega⟩
    have e1 : eb ⟨0, who, (j : Int), ⟨op, a, b, c⟩, d, m⟩ = [0, j, 0] := by simp [eb]; omega
    rw [e1]
    unfold En.val
    simp only
    have hw1 : IntKind.u8.wrap (j : Int) = (j : Int) := by rw [wrap8]; omega
    have hj0 : (j : Int) / 256 = 0 := by omega
    clear ho h3 h4 h5 h6 e1 hs
    go_enter Tryd.func43, Tryd.ntmps43
    go_wp2
    go_ret
    refine ⟨_, rfl, ?_, (World.grownBy_alloc w _ none).trans (World.grownBy_alloc _ _ none)⟩
    exact lit_at _ _ [0, j, 0] _ 3 _ rfl rfl (by simp) (by simp) (by simp)
  · simp only at hk h1 h2
    subst hk
    obtain ⟨j, rfl⟩ : ∃ j : Nat, who = (j : Int) := ⟨who.toNat, by omega⟩
    have e1 : eb ⟨1, (j : Int), n, ⟨op, a, b, c⟩, d, m⟩ = [1, j] ++ cb ⟨op, a, b, c⟩ := by simp [eb]
    rw [e1]
    have hw1 : IntKind.u8.wrap (j : Int) = (j : Int) := by rw [wrap8]; omega
    have hol : okC ⟨op, a, b, c⟩ = true := h3
    have hbl := cb_len ⟨op, a, b, c⟩
    have hbB := cb_isB hol
    have k1 := World.grownBy_alloc w (.cells #[.int .i64 1, .int .i64 (j : Int), .int .i64 n, .int .i64 op, .int .u64 (a : Nat), .int .u64 (b : Nat), .int .u64 (c : Nat), .int .i64 d, .int .i64 m] 55) none
    have CB := cbytes_ok (w := w.alloc (.cells #[.int .i64 1, .int .i64 (j : Int), .int .i64 n, .int .i64 op, .int .u64 (a : Nat), .int .u64 (b : Nat), .int .u64 (c : Nat), .int .i64 d, .int .i64 m] 55)) ⟨op, a, b, c⟩ hs (HT.kept k1) hol
    unfold Cl.val at CB
    simp only at CB
    generalize cb ⟨op, a, b, c⟩ = Q at *
    have CB := Lib.hid CB
    unfold En.val
    simp only
    clear ho h3 h4 h5 h6 e1 hs hol
    go_enter Tryd.func43, Tryd.ntmps43
    go_wp2_with fail
    refine CB.out.mono ?_
    rintro r w1 ⟨v, rfl, q1, g1⟩
    have hs1 : w.heap.size < w1.heap.size := by have := g1.size; simp at this; omega
    have x1 : w1.cell? ⟨w.heap.size, 1, none⟩ = some (.int .i64 (j : Int)) := (g1.cell_far ⟨w.heap.size, 1, none⟩ (by simp) (by simp)).trans (World.cell?_alloc_new ..)
    have k2 := World.grownBy_alloc w1 (.cells #[.int .u8 1, .int .u8 (j : Int)] 5) none
    have R1 := lit_at w1 w1.heap.size [1, j] #[.int .u8 1, .int .u8 (j : Int)] 2 w1.heap.size rfl rfl (Nat.le_refl _) (by simp) rfl
    have q2 := q1.grown k2
    have sr := (q2.reads hbB).src (by omega)
    have hB1 : w1.heap.size ≤ (w1.alloc (.cells #[.int .u8 1, .int .u8 (j : Int)] 5)).heap.size := k2.size
    obtain ⟨P0, hP0⟩ : ∃ P0 : List Nat, P0 = [1, j] := ⟨_, rfl⟩
    have hl0 : P0.length = 2 := by rw [hP0]; rfl
    rw [← hP0] at R1
    have GG := Lib.hid (k1.trans (g1.trans k2))
    obtain ⟨v0, hv0⟩ : ∃ v0, v0 = Value.slice (some ⟨w1.heap.size, 0, none⟩) 2 2 := ⟨_, rfl⟩
    have R1' : BRow (w1.alloc (.cells #[.int .u8 1, .int .u8 (j : Int)] 5)) w1.heap.size v0 P0 := by rw [hv0]; exact R1
    have HP0 := Lib.hid hP0
    have HR1 := Lib.hid R1'
    have HS1 := Lib.hid (Nat.le_of_lt hs1)
    clear R1 R1' k1 k2 g1 CB hP0 q1 q2 HT
    go_wp2_with (
    at_builtin
    refine wpList_append_src _ rfl _ _ 38 rfl w1.heap.size 5 i0 (.int .u8 0) 1 1 Tryd.underlying38 I0.out I1.out I2.out I3.out rfl (by decide) v0 P0.length (bys P0) hv0.symm HR1.out v Q.length (bys Q) rfl sr (by unfold maxLen; omega) (by omega) hB1 ?_
    intro v2 w2 hown hg2 hnil hat
    have HO2 := Lib.hid (src_put hown)
    have HG2 := Lib.hid (grow_own GG.out HR1.out HS1.out hg2)
    clear hown hg2 hnil hat sr
    )
    go_ret
    rw [HP0.out] at HO2
    exact ⟨_, rfl, HO2.out.mono HS1.out, HG2.out⟩
  · simp only at hk h1 h2 h3 h4 h5 h6
    subst hk
    obtain ⟨j, rfl⟩ : ∃ j : Nat, who = (j : Int) := ⟨who.toNat, by omega⟩
    obtain ⟨l, rfl⟩ : ∃ l : Nat, d = (l : Int) := ⟨d.toNat, by omega⟩
    obtain ⟨i, rfl⟩ : ∃ i : Nat, m = (i : Int) := ⟨m.toNat, by omega⟩
    have e1 : eb ⟨2, (j : Int), n, ⟨op, a, b, c⟩, (l : Int), (i : Int)⟩ = [2, j, l, i] := by simp [eb]
    rw [e1]
    unfold En.val
    simp only
    have hw1 : IntKind.u8.wrap (j : Int) = (j : Int) := by rw [wrap8]; omega
    have hw2 : IntKind.u8.wrap (l : Int) = (l : Int) := by rw [wrap8]; omega
    have hw3 : IntKind.u8.wrap (i : Int) = (i : Int) := by rw [wrap8]; omega
    clear ho h7 h8 e1 hs
    go_enter Tryd.func43, Tryd.ntmps43
    go_wp2
    go_ret
    refine ⟨_, rfl, ?_, (World.grownBy_alloc w _ none).trans (World.grownBy_alloc _ _ none)⟩
    exact lit_at _ _ [2, j, l, i] _ 4 _ rfl rfl (by simp) (by simp) (by simp)
end Go.Proofs.YtcnojgkolpdomaaDoor
