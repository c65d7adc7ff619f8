/-
  The document's answers for layer 10 (nightjarref10), over this seat's translation.
-/
import Derived.Test.YtijgdlanjhcabaaBoxRow
import Derived.Deep.Cut
import Derived.Deep.RegionHeld3
namespace Go.Proofs.Ytijgdlanjhcabaa
open Go.RowKit Go.Lib Go.Conc
set_option maxRecDepth 100000
set_option linter.unusedVariables false

/-- A slice whose numbers can be read, out of a block of ints. -/
def RI (w : World) (v : Value) (F : List Int) : Prop := ∃ a cap, v = .slice a F.length cap ∧ F.length ≤ cap ∧ cap ≤ maxLen ∧ (0 < F.length → ∃ b o cur, a = some ⟨b, o, none⟩ ∧ w.heap[b]? = some (.cells cur 3 (0, 0)) ∧ ∀ j (h : j < F.length), cur[o + j]? = some (.int .i64 F[j]))
section
variable {w w' : World} {v : Value} {F : List Int}
theorem RI.off (h : RI w v F) (k : ∀ (b : Nat) (cur : Array Value), w.heap[b]? = some (Obj.cells cur 3 (0, 0)) → w'.heap[b]? = w.heap[b]?) : RI w' v F := by
  obtain ⟨a, cap, rfl, hl, hm, hc⟩ := h
  refine ⟨a, cap, rfl, hl, hm, fun h0 => ?_⟩
  obtain ⟨b, o, cur, e, hb, hj⟩ := hc h0
  exact ⟨b, o, cur, e, (k b cur hb).trans hb, hj⟩
theorem RI.kept (h : RI w v F) (k : w.grownBy w' none) : RI w' v F := h.off fun b cur hb => k.block b (BI.blk_lt hb) (by simp)
theorem RI.nil (w : World) : RI w (.slice none 0 0) [] := ⟨none, 0, rfl, Nat.le_refl _, by decide, fun h => absurd h (by decide)⟩
theorem RI.reads (h : RI w v F) : ReadsZ w v F := by
  obtain ⟨a, cap, rfl, hl, hm, hc⟩ := h
  refine ⟨a, cap, rfl, fun j hj => ?_⟩
  obtain ⟨b, o, cur, e, hb, hj'⟩ := hc (by omega)
  exact ⟨b, o, e, BI.blk_lt hb, (BI.cell_blk hb _).trans (hj' j hj)⟩
theorem RI.src (h : RI w v F) : SrcAt w 1 v F.length (zints F) := by
  obtain ⟨a, cap, rfl, hl, hm, hc⟩ := h
  cases F with
  | nil =>
    cases a with
    | none => exact Or.inr ⟨cap, rfl, rfl, rfl⟩
    | some ad => exact Or.inl ⟨ad, cap, rfl, rfl, fun j u hu => by simp [zints] at hu, fun u hu => by simp [zints] at hu⟩
  | cons x l =>
    obtain ⟨b, o, cur, rfl, hb, hj⟩ := hc (by simp)
    refine Or.inl ⟨_, cap, rfl, by rw [zints_len, Nat.mul_one], fun j u hu => ?_, zints_one _⟩
    have hjl : j < (x :: l).length := by have := (List.getElem?_eq_some_iff.1 hu).1; rwa [zints_len] at this
    have e : u = .int .i64 (x :: l)[j] := by
      unfold zints at hu
      rw [List.getElem?_map, List.getElem?_eq_getElem hjl] at hu
      exact (Option.some.inj hu).symm
    subst e
    have hc := (BI.cell_blk hb (o + j)).trans (hj j hjl)
    by_cases h0 : j = 0
    · subst h0; simpa [Addr.add] using hc
    · simpa [Addr.add, h0] using hc
theorem ri_own {B : Nat} (h : w.ownsRow B 3 1 v F.length (zints F)) : RI w v F := by
  rcases h.2 with ⟨h0, hn⟩ | ⟨g, cap, cur, hv, hb, hg, hn, hm, hsz, ht⟩
  · exact ⟨none, 0, by rw [h0, hn], by omega, by decide, fun h => by omega⟩
  · refine ⟨_, cap, hv, hn, hm, fun h0 => ⟨g, 0, cur, rfl, hg, fun j hj => ?_⟩⟩
    rw [Nat.zero_add]
    have e : (cur.toList.take (F.length * 1))[j]? = some (.int .i64 F[j]) := by
      rw [ht]
      unfold zints
      rw [List.getElem?_map, List.getElem?_eq_getElem hj]
      rfl
    rw [List.getElem?_take_of_lt (by omega)] at e
    simpa using e

theorem room_ref (x : Int) (n : Nat) (hn : (n : Int) = max 0 (min x 4096)) (w : World) : Calls Try.prog 9 #[.int .i64 x] w fun e w' => e = .returned (.int .i64 (n : Int)) ∧ w = w' := by
  have hc : (x < 0 ∧ n = 0) ∨ (¬ x < 0 ∧ 4096 < x ∧ n = 4096) ∨ (¬ x < 0 ∧ ¬ 4096 < x ∧ x = (n : Int)) := by omega
  clear hn
  rcases hc with ⟨q0, rfl⟩ | ⟨q0, q1, rfl⟩ | ⟨q0, q1, rfl⟩
  · go_enter Try.func9, Try.ntmps9
    go_wp2
    go_ret
    exact ⟨rfl, rfl⟩
  · go_enter Try.func9, Try.ntmps9
    go_wp2
    go_ret
    exact ⟨rfl, rfl⟩
  · go_enter Try.func9, Try.ntmps9
    go_wp2
    go_ret
    exact ⟨rfl, rfl⟩

set_option maxHeartbeats 2000000 in
theorem post_ref_no (n : Nat) (z : Int) (h : RI w v F) (hl : n ≤ F.length) : Calls Try.prog 27 #[v, .int .i64 (n : Int), .int .i64 z] w fun e w' => e = .returned (.tuple #[v, .bool false]) ∧ w = w' := by
  obtain ⟨a, cap, rfl, _, _, _⟩ := h
  have q : (n : Int) ≤ (F.length : Int) := by omega
  go_enter Try.func27, Try.ntmps27
  go_wp2
  go_ret2
  exact ⟨rfl, rfl⟩

set_option maxHeartbeats 4000000 in
theorem post_ref_ok (n : Nat) (z : Int) (h : RI w v F) (hl : F.length < n) (hn : n ≤ 4096) : Calls Try.prog 27 #[v, .int .i64 (n : Int), .int .i64 z] w fun e w' => (∃ v', e = .returned (.tuple #[v', .bool true]) ∧ RI w' v' (F ++ [z])) ∧ w.grownBy w' none := by
  have HS := h.src
  obtain ⟨a, cap, rfl, _, _, _⟩ := h
  have q : ¬ (n : Int) ≤ (F.length : Int) := by omega
  have ka := World.grownBy_alloc w (.cells #[] 3) none
  have S1 : SrcAt (w.alloc (.cells #[] 3)) 1 (.slice a F.length cap) F.length (zints F) := by
    rcases HS with ⟨ad, c, e, hl, hc, h1⟩ | h
    · refine Or.inl ⟨ad, c, e, hl, fun j u hu => ?_, h1⟩
      have hcu := hc j u hu
      refine (World.cell?_alloc_some w (ad.add j) _ (by rw [hcu]; rfl)).trans hcu
    · exact Or.inr h
  have SR := Lib.hid S1
  have OW := Lib.hid (litZ w w.heap.size (Nat.le_refl _))
  have KA := Lib.hid ka
  obtain ⟨i0, hi0, hi1, hi2, hi3⟩ := BI.int_info
  have I0 := Lib.hid hi0
  have I1 := Lib.hid hi1
  have I2 := Lib.hid hi2
  have I3 := Lib.hid hi3
  clear hi0 hi1 hi2 hi3 HS S1 ka
  have hb0 : Hid (w.heap.size ≤ (w.alloc (.cells #[] 3)).heap.size) := Lib.hid KA.out.size
  go_enter Try.func27, Try.ntmps27
  go_wp2_with (first
    | (at_builtin
       refine wpList_append_src _ rfl _ _ 28 rfl w.heap.size 3 i0 (.int .i64 0) 1 8 Try.underlying28 I0.out I1.out I2.out I3.out rfl (by decide) _ _ _ rfl OW.out _ _ _ rfl SR.out (by unfold maxLen; omega) (by omega) hb0.out ?_
       intro v1 w1 hown' hgrow hnil hat
       have G1 : Hid (w.grownBy w1 none) := Lib.hid ⟨hgrow.os.trans KA.out.os, hgrow.tape.trans KA.out.tape, hgrow.output.trans KA.out.output, Nat.le_trans KA.out.size hgrow.size, fun j hj _ => (hgrow.block j (Nat.lt_of_lt_of_le hj KA.out.size) (fun e => by have := (OW.out.lt j e.symm).1; omega)).trans (KA.out.block j hj (by simp))⟩
       have hown1 : w1.ownsRow w.heap.size 3 1 v1 F.length (zints F) := by simpa [zints] using hown'
       obtain ⟨s1, c1, rfl, _, _⟩ := BI.own_at hown1
       have kb := World.grownBy_alloc w1 (.cells #[.int .i64 z] 3) none
       have O1 := Lib.hid (hown1.alloc (.cells #[.int .i64 z] 3))
       have SZ := Lib.hid (BI.src_one w1 (.int .i64 z) 3 rfl)
       have hb1 : Hid (w.heap.size ≤ (w1.alloc (.cells #[.int .i64 z] 3)).heap.size) := Lib.hid (Nat.le_trans G1.out.size kb.size)
       have KB := Lib.hid kb
       clear hown' hgrow hnil hat hown1 kb OW SR hb0 KA)
    | (at_builtin
       refine wpList_append_src _ rfl _ _ 28 rfl w.heap.size 3 i0 (.int .i64 0) 1 8 Try.underlying28 I0.out I1.out I2.out I3.out rfl (by decide) _ _ _ rfl O1.out _ _ _ rfl SZ.out (by unfold maxLen; omega) (by omega) hb1.out ?_
       intro v2 w2 hown' hgrow hnil hat
       have G2 : Hid (w.grownBy w2 none) := Lib.hid ⟨hgrow.os.trans (KB.out.os.trans G1.out.os), hgrow.tape.trans (KB.out.tape.trans G1.out.tape), hgrow.output.trans (KB.out.output.trans G1.out.output), Nat.le_trans hb1.out hgrow.size, fun j hj _ => (hgrow.block j (Nat.lt_of_lt_of_le hj hb1.out) (fun e => by have := (O1.out.lt j e.symm).1; omega)).trans ((KB.out.block j (Nat.lt_of_lt_of_le hj G1.out.size) (by simp)).trans (G1.out.block j hj (by simp)))⟩
       have R2 : Hid (RI w2 v2 (F ++ [z])) := Lib.hid (ri_own (B := w.heap.size) (by simpa [zints] using hown'))
       clear hown' hgrow hnil hat O1 SZ hb1 KB G1))
  go_wp2
  go_ret2
  exact ⟨⟨v2, rfl, R2.out⟩, G2.out⟩

theorem slice1 (b o n cap : Nat) (hc : n + 1 ≤ cap) (w : World) : (Instr.slice 28 (.slice (some ⟨b, o, none⟩) (n + 1) cap) (some (.int .i64 1)) none none).run Try.prog w = .ok (.slice (if cap = 1 then some ⟨b, o, none⟩ else some ⟨b, o + 1, none⟩) n (cap - 1)) w := by
  obtain ⟨i0, hi0, _, hi2, _⟩ := BI.int_info
  have e : (⟨b, o, none⟩ : Addr).add 1 = ⟨b, o + 1, none⟩ := by simp [Addr.add]
  simp [Instr.slice, run_underlying Try.underlying28 w, Instr.sliceBounds, Instr.sliceBound, asIntOf, sizeOf, typeInfo, hi0, hi2, e, go_sem]
  intro h
  omega
theorem fetch_ref_no (h : RI w v []) : Calls Try.prog 28 #[v] w fun e w' => e = .returned (.tuple #[v, .int .i64 0, .bool false]) ∧ w = w' := by
  obtain ⟨a, cap, rfl, _, _, _⟩ := h
  go_enter Try.func28, Try.ntmps28
  go_wp2
  go_ret3
  exact ⟨rfl, rfl⟩

set_option maxHeartbeats 2000000 in
theorem fetch_ref_some {z : Int} (h : RI w v (z :: F)) : Calls Try.prog 28 #[v] w fun e w' => (∃ v', e = .returned (.tuple #[v', .int .i64 z, .bool true]) ∧ RI w' v' F) ∧ w.grownBy w' none := by
  obtain ⟨a, cap, rfl, hl, hm, hc⟩ := h
  obtain ⟨b, o, cur, rfl, hb, hj⟩ := hc (by simp)
  have c0 : w.cell? ⟨b, o, none⟩ = some (.int .i64 z) := (BI.cell_blk hb o).trans (by have := hj 0 (by simp); simpa using this)
  simp only [List.length_cons] at hl ⊢
  have q0 : (0 : Int) < ((F.length + 1 : Nat) : Int) := by omega
  have q1 : (1 : Int) ≤ ((F.length + 1 : Nat) : Int) := by omega
  have HB := Lib.hid hb
  have HJ := Lib.hid hj
  obtain ⟨a', hsl, ha'⟩ : ∃ a' : Option Addr, (∀ w : World, (Instr.slice 28 (.slice (some ⟨b, o, none⟩) (F.length + 1) cap) (some (.int .i64 1)) none none).run Try.prog w = .ok (.slice a' F.length (cap - 1)) w) ∧ (0 < F.length → a' = some ⟨b, o + 1, none⟩) := by
    refine ⟨_, slice1 b o F.length cap hl, fun h => ?_⟩
    rw [if_neg (by omega)]
  have HA := Lib.hid ha'
  clear hb hj hc ha'
  go_enter Try.func28, Try.ntmps28
  go_wp2_with fail
  refine wp_region_still_lit (by kernel_rfl) (by kernel_rfl) ?_
  change wpStill _ _ w.drew _ _ _
  repeat still_step
  refine wpStill_nil ?_
  go_wp2
  go_ret3
  refine ⟨⟨.slice a' F.length (cap - 1), rfl, a', cap - 1, rfl, by omega, by omega, fun h => ⟨b, o + 1, cur, HA.out h, HB.out, fun j hj => ?_⟩⟩, ⟨rfl, rfl, rfl, Nat.le_refl _, fun _ _ _ => rfl⟩⟩
  have := HJ.out (j + 1) (by simp; omega)
  have e : o + (j + 1) = o + 1 + j := by omega
  rw [e] at this
  simpa using this
end
end Go.Proofs.Ytijgdlanjhcabaa
