/-
  call.Of and call.Named over the table of forms, over this seat's translation.
-/
import Derived.Test.YtcnojgkolpdomaaDoorCall1
import Derived.Deep.MidRow
namespace Go.Proofs.YtcnojgkolpdomaaDoor
open Go.RowKit Go.Lib
set_option maxRecDepth 100000
set_option linter.unusedVariables false

/-- The kinds' names, as bytes. -/
def fNm : Nat → Array UInt8
  | 0 => #[111, 112, 101, 110] | 1 => #[116, 105, 109, 101, 114] | 2 => #[100, 117, 112] | 3 => #[100, 114, 111, 112] | 4 => #[97, 114, 109] | 5 => #[115, 116, 111, 112] | 6 => #[119, 104, 101, 110]
  | 7 => #[119, 97, 116, 99, 104] | 8 => #[117, 110, 119, 97, 116, 99, 104] | 9 => #[99, 111, 110, 100] | 10 => #[97, 99, 107] | 11 => #[117, 115, 101, 100] | _ => #[110, 111, 119]
def fKd : Nat → Nat
  | 4 => 1 | 5 => 1 | 6 => 1 | 7 => 2 | 8 => 2 | 9 => 2 | 10 => 2 | _ => 0
def fRt : Nat → Nat
  | 2 => 8 | 4 => 1 | 5 => 2 | 6 => 4 | 7 => 1 | 8 => 2 | 9 => 4 | 10 => 4 | _ => 0
def fCells (k : Nat) : List Value := [.string ⟨fNm k⟩, .int .i64 (nArgs k : Nat), .int .i64 (fKd k : Nat), .int .i64 (fRt k : Nat)]
def fVal (k : Nat) : Value := .agg #[.string ⟨fNm k⟩, .int .i64 (nArgs k : Nat), .int .i64 (fKd k : Nat), .int .i64 (fRt k : Nat)]
def formC : List Value := (List.range 13).flatMap fCells
def FormsAt (w : World) : Prop := 0 < w.heap.size ∧ ∀ k, k < 13 → ∀ j, j < 4 → w.cell? ⟨0, k * 4 + j, none⟩ = (fCells k)[j]?
theorem FormsAt.kept {w w' : World} (h : FormsAt w) (hg : w.grownBy w' none) : FormsAt w' :=
  ⟨Nat.lt_of_lt_of_le h.1 hg.size, fun k hk j hj => (hg.cell_far ⟨0, k * 4 + j, none⟩ h.1 (by simp)).trans (h.2 k hk j hj)⟩
theorem FormsAt.on {w w' : World} {row : Option Nat} (h : FormsAt w) (hg : w.grownBy w' row) (hr : some 0 ≠ row) : FormsAt w' :=
  ⟨Nat.lt_of_lt_of_le h.1 hg.size, fun k hk j hj => (hg.cell_far ⟨0, k * 4 + j, none⟩ h.1 hr).trans (h.2 k hk j hj)⟩
theorem FormsAt.c {w : World} (h : FormsAt w) {k : Nat} (hk : k < 13) : w.cell? ⟨0, k * 4, none⟩ = some (.string ⟨fNm k⟩) ∧ w.cell? ⟨0, k * 4 + 1, none⟩ = some (.int .i64 (nArgs k : Nat)) ∧ w.cell? ⟨0, k * 4 + 2, none⟩ = some (.int .i64 (fKd k : Nat)) ∧ w.cell? ⟨0, k * 4 + 3, none⟩ = some (.int .i64 (fRt k : Nat)) :=
  ⟨h.2 k hk 0 (by decide), h.2 k hk 1 (by decide), h.2 k hk 2 (by decide), h.2 k hk 3 (by decide)⟩

set_option maxHeartbeats 1000000 in
theorem cof_in {w : World} (k : Nat) (hk : k < 13) (HT : FormsAt w) :
    Calls Tryd.prog 14 #[.int .i64 (k : Int)] w fun e w' => e = .returned (.tuple #[fVal k, .bool true]) ∧ w.grownBy w' none := by
  have ka := World.grownBy_alloc w (.cells #[.string ⟨#[]⟩, .int .i64 0, .int .i64 0, .int .i64 0] 27) none
  obtain ⟨c0, c1, c2, c3⟩ := (HT.kept ka).c hk
  have q0 : ¬ (k : Int) < 0 := by omega
  have q1 : (k : Int) < 13 := by omega
  have q2 : ¬ (k : Int) ≥ 13 := by omega
  have KA := Lib.hid ka
  clear HT ka
  unfold fVal
  generalize fNm k = nm at *
  generalize nArgs k = na at *
  generalize fKd k = kd at *
  generalize fRt k = rt at *
  go_enter Tryd.func14, Tryd.ntmps14
  go_wp2
  exact bodyPost_ret (v := .tuple #[.agg #[.string ⟨nm⟩, .int .i64 (na : Nat), .int .i64 (kd : Nat), .int .i64 (rt : Nat)], .bool true]) (by simp [results, Tryd.results14, go_sem]) rfl ⟨rfl, World.grownBy_alloc w _ none⟩
def fZero : Value := .agg #[.string ⟨#[]⟩, .int .i64 0, .int .i64 0, .int .i64 0]
set_option maxHeartbeats 1000000 in
theorem cof_no {w : World} (op : Int) (hk : op < 0 ∨ 13 ≤ op) :
    Calls Tryd.prog 14 #[.int .i64 op] w fun e w' => e = .returned (.tuple #[fZero, .bool false]) ∧ w.grownBy w' none := by
  have fin : ∀ w : World, w.grownBy (w.alloc (.cells #[.string ⟨#[]⟩, .int .i64 0, .int .i64 0, .int .i64 0] 27)) none := fun w => World.grownBy_alloc w _ none
  unfold fZero
  by_cases q0 : op < 0
  · go_enter Tryd.func14, Tryd.ntmps14
    go_wp2
    exact bodyPost_ret (v := .tuple #[.agg #[.string ⟨#[]⟩, .int .i64 0, .int .i64 0, .int .i64 0], .bool false]) (by simp [results, Tryd.results14, go_sem]) rfl ⟨rfl, World.grownBy_alloc w _ none⟩
  · have q1 : op ≥ 13 := by omega
    have q2 : ¬ op < 13 := by omega
    go_enter Tryd.func14, Tryd.ntmps14
    go_wp2
    exact bodyPost_ret (v := .tuple #[.agg #[.string ⟨#[]⟩, .int .i64 0, .int .i64 0, .int .i64 0], .bool false]) (by simp [results, Tryd.results14, go_sem]) rfl ⟨rfl, World.grownBy_alloc w _ none⟩

theorem forms_info : (Tryd.prog.info? 68).map (·.size) = some 52 := by kernel_rfl
theorem form_four : (Tryd.prog.info? 27).map (·.size) = some 4 := by kernel_rfl
theorem load_forms {rest : List Oper} {ops : Array Oper} {dst : Option Nat} {tt : TypeId} {ps : String} {af : Array Edge} {x : Operand} {f : Act} {w : World} {Q : Exit → Act → World → Prop} (b o : Nat) (a : Array Value) (hr : w.rangeAt b o a.toList) (hs : a.size = 52)
    (hx : f.eval x = .pointer (some ⟨b, o, none⟩)) (hyp : wpList Tryd.prog ops Q rest (f.put dst (.agg a)) w) :
    wpList Tryd.prog ops Q ({ dst := dst, op := .load 68 x, type := tt, pos := ps, after := af, guard := none } :: rest) f w := by
  refine wpList_load_mid rfl 68 x rfl b o hx a.toList _ hr Tryd.underlying68 rfl (by rw [forms_info]; simp [hs]) ?_
  simpa using hyp
theorem index_forms {rest : List Oper} {ops : Array Oper} {dst : Option Nat} {tt : TypeId} {ps : String} {af : Array Edge} {x i : Operand} {f : Act} {w : World} {Q : Exit → Act → World → Prop} (a : Array Value) (j : Nat) (v : Value) (hj : j < 13) (ha : .agg (a.extract (j * 4) (j * 4 + 4)) = v)
    (hx : f.eval x = .agg a) (hi : f.eval i = .int .i64 (j : Int)) (hyp : wpList Tryd.prog ops Q rest (f.put dst v) w) :
    wpList Tryd.prog ops Q ({ dst := dst, op := .index 68 x i, type := tt, pos := ps, after := af, guard := none } :: rest) f w := by
  refine wpList_plain rfl fun K hK => ?_
  have hlt : (0 : Int) ≤ (j : Int) ∧ (j : Int) < (13 : Nat) := by omega
  have hrun : (Instr.index 68 (.agg a) (.int .i64 (j : Int))).run Tryd.prog w = .ok v w := by
    cases hq : Tryd.prog.info? 27 with
    | none => have := form_four; simp [hq] at this
    | some info =>
      have h1 : info.size = 4 := by have := form_four; simpa [hq] using this
      simp [Instr.index, asIntOf, run_underlying Tryd.underlying68 w, hj, sizeOf, typeInfo, hq, h1, part, run_underlying Tryd.underlying27 w, isAgg, ha]
  unfold Oper.wp execOp
  simp only [hx, hi, Sem.run_bind, hrun, Result.andThen_ok, Sem.run_pure]
  exact hK _ _ hyp
theorem formC_at : ∀ k, k < 13 → ∀ j, j < 4 → formC[k * 4 + j]? = (fCells k)[j]? := by
  have h : ((List.range 13).all fun k => (List.range 4).all fun j => decide (k * 4 + j < 52)) = true := by decide
  intro k hk j hj
  match k, hk, j, hj with
  | 0, _, j, hj => match j, hj with | 0, _ => rfl | 1, _ => rfl | 2, _ => rfl | 3, _ => rfl
  | 1, _, j, hj => match j, hj with | 0, _ => rfl | 1, _ => rfl | 2, _ => rfl | 3, _ => rfl
  | 2, _, j, hj => match j, hj with | 0, _ => rfl | 1, _ => rfl | 2, _ => rfl | 3, _ => rfl
  | 3, _, j, hj => match j, hj with | 0, _ => rfl | 1, _ => rfl | 2, _ => rfl | 3, _ => rfl
  | 4, _, j, hj => match j, hj with | 0, _ => rfl | 1, _ => rfl | 2, _ => rfl | 3, _ => rfl
  | 5, _, j, hj => match j, hj with | 0, _ => rfl | 1, _ => rfl | 2, _ => rfl | 3, _ => rfl
  | 6, _, j, hj => match j, hj with | 0, _ => rfl | 1, _ => rfl | 2, _ => rfl | 3, _ => rfl
  | 7, _, j, hj => match j, hj with | 0, _ => rfl | 1, _ => rfl | 2, _ => rfl | 3, _ => rfl
  | 8, _, j, hj => match j, hj with | 0, _ => rfl | 1, _ => rfl | 2, _ => rfl | 3, _ => rfl
  | 9, _, j, hj => match j, hj with | 0, _ => rfl | 1, _ => rfl | 2, _ => rfl | 3, _ => rfl
  | 10, _, j, hj => match j, hj with | 0, _ => rfl | 1, _ => rfl | 2, _ => rfl | 3, _ => rfl
  | 11, _, j, hj => match j, hj with | 0, _ => rfl | 1, _ => rfl | 2, _ => rfl | 3, _ => rfl
  | 12, _, j, hj => match j, hj with | 0, _ => rfl | 1, _ => rfl | 2, _ => rfl | 3, _ => rfl
theorem formC_ext (k : Nat) (hk : k < 13) : Value.agg (formC.toArray.extract (k * 4) (k * 4 + 4)) = fVal k := by
  match k, hk with
  | 0, _ => rfl | 1, _ => rfl | 2, _ => rfl | 3, _ => rfl | 4, _ => rfl | 5, _ => rfl | 6, _ => rfl | 7, _ => rfl | 8, _ => rfl | 9, _ => rfl | 10, _ => rfl | 11, _ => rfl | 12, _ => rfl
theorem FormsAt.range {w : World} (h : FormsAt w) : w.rangeAt 0 0 formC.toArray.toList := by
  intro j v hv
  have hj : j < 52 := (List.getElem?_eq_some_iff.1 (by simpa using hv)).1
  have e : j = j / 4 * 4 + j % 4 := by omega
  have h1 := h.2 (j / 4) (by omega) (j % 4) (by omega)
  rw [← formC_at (j / 4) (by omega) (j % 4) (by omega), ← e] at h1
  rw [Nat.zero_add, h1]
  simpa using hv

/-- The kind of a name. -/
def namedN (s : ByteArray) : Nat → Option Nat
  | 0 => none
  | k + 1 => match namedN s k with
    | some i => some i
    | none => if ((⟨fNm k⟩ : ByteArray).toList == s.toList) = true then some k else none
def namedR : Option Nat → Value
  | some k => .tuple #[.int .i64 (k : Nat), .bool true]
  | none => .tuple #[.int .i64 0, .bool false]
def namedV (s : ByteArray) : Value := namedR (namedN s 13)
theorem namedV_eq {s : ByteArray} {x : Option Nat} (h : namedN s 13 = x) : namedV s = namedR x := by unfold namedV; rw [h]
theorem namedN_on (s : ByteArray) {j : Nat} (k : Nat) (h : namedN s k = some j) : ∀ m, namedN s (k + m) = some j
  | 0 => h
  | m + 1 => by rw [← Nat.add_assoc, namedN, namedN_on s k h m]
set_option maxHeartbeats 2000000 in
theorem cnamed {w : World} (s : ByteArray) (HT : FormsAt w) :
    Calls Tryd.prog 19 #[.string s] w fun e w' => e = .returned (namedV s) ∧ w.grownBy w' none := by
  have HR := Lib.hid HT.range
  clear HT
  obtain ⟨a, ha⟩ : ∃ a, a = formC.toArray := ⟨_, rfl⟩
  have hs : a.size = 52 := by rw [ha]; rfl
  have HE := Lib.hid (show ∀ k, k < 13 → Value.agg (a.extract (k * 4) (k * 4 + 4)) = fVal k from by rw [ha]; exact formC_ext)
  rw [← ha] at HR
  clear ha
  obtain ⟨R, hR⟩ : ∃ R, R = namedV s := ⟨_, rfl⟩
  rw [← hR]
  have HV := Lib.hid hR
  clear hR
  go_enter Tryd.func19, Tryd.ntmps19
  go_wp2_with (refine load_forms 0 0 a HR.out hs rfl ?_)
  go_loopw [2, 3, 7] (fun rv ov kv wr => ∃ j : Nat, j ≤ 13 ∧ kv = .int .i64 (j : Int) ∧ rv = .int .i64 0 ∧ ov = .bool false ∧ Hid (namedN s j = none) ∧ w.grownBy wr none) (fun _ _ kv _ => 13 - (intOf kv).toNat)
  case atStart => exact ⟨0, by decide, rfl, rfl, rfl, Lib.hid rfl, grow_nothing w⟩
  case round =>
    obtain ⟨j, hj, rfl, rfl, rfl, HN, hG⟩ := hrel
    by_cases hlt : j < 13
    · have he := HE.out j hlt
      unfold fVal at he
      have hn1 : namedN s (j + 1) = if ((⟨fNm j⟩ : ByteArray).toList == s.toList) = true then some j else none := by rw [namedN, HN.out]
      have HN1 := Lib.hid hn1
      clear hn1
      generalize hnm : fNm j = nm at *
      generalize nArgs j = na at *
      generalize fKd j = kd at *
      generalize fRt j = rt at *
      have HG := Lib.hid (hG.trans (World.grownBy_alloc wr (.cells #[.string ⟨nm⟩, .int .i64 (na : Nat), .int .i64 (kd : Nat), .int .i64 (rt : Nat)] 27) none))
      clear hG hnm
      by_cases hq : ((⟨nm⟩ : ByteArray).toList == s.toList) = true
      · have hfin : R = .tuple #[.int .i64 (j : Nat), .bool true] := by
          have h1 := HN1.out
          rw [if_pos hq] at h1
          have h2 := namedN_on s (j + 1) h1 (12 - j)
          rw [show j + 1 + (12 - j) = 13 by omega] at h2
          exact HV.out.trans (namedV_eq h2)
        have HF := Lib.hid hfin
        clear hfin
        go_wp2_with (refine index_forms a j _ hlt he rfl rfl ?_)
        go_ret2
        exact ⟨by simp [HF.out], HG.out⟩
      · have HQ := Lib.hid hq
        have hb : ((⟨nm⟩ : ByteArray).toList == s.toList) = false := by simpa using hq
        clear hq
        go_wp2_with (refine index_forms a j _ hlt he rfl rfl ?_)
        go_roundw
        case rel => exact ⟨j + 1, by omega, by go_num, rfl, rfl, Lib.hid (by rw [HN1.out, if_neg HQ.out]), HG.out⟩
        case measure => simp [intOf]; omega
    · obtain rfl : j = 13 := by omega
      have hfin : R = .tuple #[.int .i64 0, .bool false] := HV.out.trans (namedV_eq HN.out)
      have HF := Lib.hid hfin
      clear hfin
      go_wp2
      go_ret2
      exact ⟨by simp [HF.out], hG⟩
end Go.Proofs.YtcnojgkolpdomaaDoor
