/-
  NARROWER THAN 'FOR EVERY INPUT', by the rows' own cells (each row's printed sentence says how): CallForms: laid · CallReads: laid · CallBack: laid · CallNames: laid · WireReads: laid · WireWrites: laid · WireBack: laid · WireCuts: laid · WireParts: laid · WireSpoils: laid.
  DERIVED. THE GIVEN ROWS OF THIS SEAT. 10 by the template 'for every input the law returns true; each argument reads behind the call as it read before'; 0 by the template 'total and deterministic' (their statements: YtcnojgkolpdomaaDoorTotals.lean).
  GIVEN WITH THE SEED: the statements are not yours to turn. If you find one false, say at which input.
  Laid BY PROGRAM, IN A SANDBOX (cutbox-rows.mjs): the forced cells as the released guide's own fill.sh prints them over the translation ac560b3365040db3… (all of the seat's roots in one cut). By AI agents, Wed Nov 11 2026. No macro, syntax, notation, axiom, sorry.
-/
import Derived.Test.YtcnojgkolpdomaaDoorChecked
import GoSem.Claim
import GoSem.ClaimJoined
import GoSem.ClaimMapViews
import Derived.JoinedTies
import Derived.KernelRfl
namespace Go.Proofs.YtcnojgkolpdomaaDoor
/- THE CELL 'sum', in the pinned program and in every row, IS THE sha256 OF THE DUMP (.gsa) THAT YtcnojgkolpdomaaDoorProg.lean LOADS. Nothing in Lean hashes anything: it is a label: what it is worth is what the hold of that sum in a sandbox is worth. -/
noncomputable def Tryd.pinned : Pinned := { name := "ytcnojgkolpdomaadoor", sum := "ac560b3365040db3dd8aa02bbea0670e49842763b7bb83ea5b233f9ad3a2b9de", checked := Tryd.checked }
namespace Rows
def none {H : Type} : Left H := { results := [], args := [] }

/- WHAT THE LISTED PACKAGE-LEVEL VARIABLES READ AS WHEN THE CALL BEGINS. Each datum BY PROGRAM (the guide's laid-datum.mjs) off the statement by which the dump's own 'gosem.cut.vars' lays the variable. In a bare row this is a premise. The card (YtcnojgkolpdomaaDoorCards.lean) ties it to the program's text. -/
def laid_nightjar_call_forms {H : Type} : DataW H := .agg [.agg [.lit (.string [111, 112, 101, 110]), .lit (.int .i64 1), .lit (.int .i64 0), .lit (.int .i64 0)], .agg [.lit (.string [116, 105, 109, 101, 114]), .lit (.int .i64 0), .lit (.int .i64 0), .lit (.int .i64 0)], .agg [.lit (.string [100, 117, 112]), .lit (.int .i64 2), .lit (.int .i64 0), .lit (.int .i64 8)], .agg [.lit (.string [100, 114, 111, 112]), .lit (.int .i64 1), .lit (.int .i64 0), .lit (.int .i64 0)], .agg [.lit (.string [97, 114, 109]), .lit (.int .i64 3), .lit (.int .i64 1), .lit (.int .i64 1)], .agg [.lit (.string [115, 116, 111, 112]), .lit (.int .i64 1), .lit (.int .i64 1), .lit (.int .i64 2)], .agg [.lit (.string [119, 104, 101, 110]), .lit (.int .i64 1), .lit (.int .i64 1), .lit (.int .i64 4)], .agg [.lit (.string [119, 97, 116, 99, 104]), .lit (.int .i64 3), .lit (.int .i64 2), .lit (.int .i64 1)], .agg [.lit (.string [117, 110, 119, 97, 116, 99, 104]), .lit (.int .i64 1), .lit (.int .i64 2), .lit (.int .i64 2)], .agg [.lit (.string [99, 111, 110, 100]), .lit (.int .i64 1), .lit (.int .i64 2), .lit (.int .i64 4)], .agg [.lit (.string [97, 99, 107]), .lit (.int .i64 2), .lit (.int .i64 2), .lit (.int .i64 4)], .agg [.lit (.string [117, 115, 101, 100]), .lit (.int .i64 1), .lit (.int .i64 0), .lit (.int .i64 0)], .agg [.lit (.string [110, 111, 119]), .lit (.int .i64 0), .lit (.int .i64 0), .lit (.int .i64 0)]]

/-- 'nightjarlaw14.CallForms': WHATEVER THE INPUT: true; the input reads as it did. -/
def callFormsSpec : ChangeSpec := { name := "callForms", fn := fun _ => fun
  | [d1, d2] => { results := [.lit (.bool true)], args := [d1, d2] }
  | _ => none }
def callFormsRow : OpenClaim := { program := "ytcnojgkolpdomaadoor", sum := "ac560b3365040db3dd8aa02bbea0670e49842763b7bb83ea5b233f9ad3a2b9de", func := "nightjar/nightjarlaw14.CallForms", spec := "callForms", named := ["nightjar/call.forms"], apart := false, laid := [("nightjar/call.forms", laid_nightjar_call_forms)] }
def CallFormsSaid : Prop := callFormsRow.holds Tryd.pinned (OpenSpec.ofChange callFormsSpec)

/-- ITS FALSE NEIGHBOUR: 'it returns false'. Refute it at one input. -/
def callFormsWrong : ChangeSpec := { name := "callForms", fn := fun _ => fun
  | [d1, d2] => { results := [.lit (.bool false)], args := [d1, d2] }
  | _ => none }
def CallFormsWrongFalsely : Prop := callFormsRow.holds Tryd.pinned (OpenSpec.ofChange callFormsWrong)

/-- 'nightjarlaw14.CallReads': WHATEVER THE INPUT: true; the input reads as it did. -/
def callReadsSpec : ChangeSpec := { name := "callReads", fn := fun _ => fun
  | [d1, d2] => { results := [.lit (.bool true)], args := [d1, d2] }
  | _ => none }
def callReadsRow : OpenClaim := { program := "ytcnojgkolpdomaadoor", sum := "ac560b3365040db3dd8aa02bbea0670e49842763b7bb83ea5b233f9ad3a2b9de", func := "nightjar/nightjarlaw14.CallReads", spec := "callReads", named := ["nightjar/call.forms"], apart := false, laid := [("nightjar/call.forms", laid_nightjar_call_forms)] }
def CallReadsSaid : Prop := callReadsRow.holds Tryd.pinned (OpenSpec.ofChange callReadsSpec)

/-- ITS FALSE NEIGHBOUR: 'it returns false'. Refute it at one input. -/
def callReadsWrong : ChangeSpec := { name := "callReads", fn := fun _ => fun
  | [d1, d2] => { results := [.lit (.bool false)], args := [d1, d2] }
  | _ => none }
def CallReadsWrongFalsely : Prop := callReadsRow.holds Tryd.pinned (OpenSpec.ofChange callReadsWrong)

/-- 'nightjarlaw14.CallBack': WHATEVER THE INPUT: true; the input reads as it did. -/
def callBackSpec : ChangeSpec := { name := "callBack", fn := fun _ => fun
  | [d1, d2] => { results := [.lit (.bool true)], args := [d1, d2] }
  | _ => none }
def callBackRow : OpenClaim := { program := "ytcnojgkolpdomaadoor", sum := "ac560b3365040db3dd8aa02bbea0670e49842763b7bb83ea5b233f9ad3a2b9de", func := "nightjar/nightjarlaw14.CallBack", spec := "callBack", named := ["nightjar/call.forms"], apart := false, laid := [("nightjar/call.forms", laid_nightjar_call_forms)] }
def CallBackSaid : Prop := callBackRow.holds Tryd.pinned (OpenSpec.ofChange callBackSpec)

/-- ITS FALSE NEIGHBOUR: 'it returns false'. Refute it at one input. -/
def callBackWrong : ChangeSpec := { name := "callBack", fn := fun _ => fun
  | [d1, d2] => { results := [.lit (.bool false)], args := [d1, d2] }
  | _ => none }
def CallBackWrongFalsely : Prop := callBackRow.holds Tryd.pinned (OpenSpec.ofChange callBackWrong)

/-- 'nightjarlaw14.CallNames': WHATEVER THE INPUT: true; the input reads as it did. -/
def callNamesSpec : ChangeSpec := { name := "callNames", fn := fun _ => fun
  | [d1, d2, d3, d4, d5] => { results := [.lit (.bool true)], args := [d1, d2, d3, d4, d5] }
  | _ => none }
def callNamesRow : OpenClaim := { program := "ytcnojgkolpdomaadoor", sum := "ac560b3365040db3dd8aa02bbea0670e49842763b7bb83ea5b233f9ad3a2b9de", func := "nightjar/nightjarlaw14.CallNames", spec := "callNames", named := ["nightjar/call.forms"], apart := false, laid := [("nightjar/call.forms", laid_nightjar_call_forms)] }
def CallNamesSaid : Prop := callNamesRow.holds Tryd.pinned (OpenSpec.ofChange callNamesSpec)

/-- ITS FALSE NEIGHBOUR: 'it returns false'. Refute it at one input. -/
def callNamesWrong : ChangeSpec := { name := "callNames", fn := fun _ => fun
  | [d1, d2, d3, d4, d5] => { results := [.lit (.bool false)], args := [d1, d2, d3, d4, d5] }
  | _ => none }
def CallNamesWrongFalsely : Prop := callNamesRow.holds Tryd.pinned (OpenSpec.ofChange callNamesWrong)

/-- 'nightjarlaw15.WireReads': WHATEVER THE INPUT: true; the input reads as it did. -/
def wireReadsSpec : ChangeSpec := { name := "wireReads", fn := fun _ => fun
  | [d] => { results := [.lit (.bool true)], args := [d] }
  | _ => none }
def wireReadsRow : OpenClaim := { program := "ytcnojgkolpdomaadoor", sum := "ac560b3365040db3dd8aa02bbea0670e49842763b7bb83ea5b233f9ad3a2b9de", func := "nightjar/nightjarlaw15.WireReads", spec := "wireReads", named := ["nightjar/call.forms"], apart := false, laid := [("nightjar/call.forms", laid_nightjar_call_forms)] }
def WireReadsSaid : Prop := wireReadsRow.holds Tryd.pinned (OpenSpec.ofChange wireReadsSpec)

/-- ITS FALSE NEIGHBOUR: 'it returns false'. Refute it at one input. -/
def wireReadsWrong : ChangeSpec := { name := "wireReads", fn := fun _ => fun
  | [d] => { results := [.lit (.bool false)], args := [d] }
  | _ => none }
def WireReadsWrongFalsely : Prop := wireReadsRow.holds Tryd.pinned (OpenSpec.ofChange wireReadsWrong)

/-- 'nightjarlaw15.WireWrites': WHATEVER THE INPUT: true; the input reads as it did. -/
def wireWritesSpec : ChangeSpec := { name := "wireWrites", fn := fun _ => fun
  | [d] => { results := [.lit (.bool true)], args := [d] }
  | _ => none }
def wireWritesRow : OpenClaim := { program := "ytcnojgkolpdomaadoor", sum := "ac560b3365040db3dd8aa02bbea0670e49842763b7bb83ea5b233f9ad3a2b9de", func := "nightjar/nightjarlaw15.WireWrites", spec := "wireWrites", named := ["nightjar/call.forms"], apart := false, laid := [("nightjar/call.forms", laid_nightjar_call_forms)] }
def WireWritesSaid : Prop := wireWritesRow.holds Tryd.pinned (OpenSpec.ofChange wireWritesSpec)

/-- ITS FALSE NEIGHBOUR: 'it returns false'. Refute it at one input. -/
def wireWritesWrong : ChangeSpec := { name := "wireWrites", fn := fun _ => fun
  | [d] => { results := [.lit (.bool false)], args := [d] }
  | _ => none }
def WireWritesWrongFalsely : Prop := wireWritesRow.holds Tryd.pinned (OpenSpec.ofChange wireWritesWrong)

/-- 'nightjarlaw15.WireBack': WHATEVER THE INPUT: true; the input reads as it did. -/
def wireBackSpec : ChangeSpec := { name := "wireBack", fn := fun _ => fun
  | [d1, d2] => { results := [.lit (.bool true)], args := [d1, d2] }
  | _ => none }
def wireBackRow : OpenClaim := { program := "ytcnojgkolpdomaadoor", sum := "ac560b3365040db3dd8aa02bbea0670e49842763b7bb83ea5b233f9ad3a2b9de", func := "nightjar/nightjarlaw15.WireBack", spec := "wireBack", named := ["nightjar/call.forms"], apart := false, laid := [("nightjar/call.forms", laid_nightjar_call_forms)] }
def WireBackSaid : Prop := wireBackRow.holds Tryd.pinned (OpenSpec.ofChange wireBackSpec)

/-- ITS FALSE NEIGHBOUR: 'it returns false'. Refute it at one input. -/
def wireBackWrong : ChangeSpec := { name := "wireBack", fn := fun _ => fun
  | [d1, d2] => { results := [.lit (.bool false)], args := [d1, d2] }
  | _ => none }
def WireBackWrongFalsely : Prop := wireBackRow.holds Tryd.pinned (OpenSpec.ofChange wireBackWrong)

/-- 'nightjarlaw15.WireCuts': WHATEVER THE INPUT: true; the input reads as it did. -/
def wireCutsSpec : ChangeSpec := { name := "wireCuts", fn := fun _ => fun
  | [d1, d2] => { results := [.lit (.bool true)], args := [d1, d2] }
  | _ => none }
def wireCutsRow : OpenClaim := { program := "ytcnojgkolpdomaadoor", sum := "ac560b3365040db3dd8aa02bbea0670e49842763b7bb83ea5b233f9ad3a2b9de", func := "nightjar/nightjarlaw15.WireCuts", spec := "wireCuts", named := ["nightjar/call.forms"], apart := false, laid := [("nightjar/call.forms", laid_nightjar_call_forms)] }
def WireCutsSaid : Prop := wireCutsRow.holds Tryd.pinned (OpenSpec.ofChange wireCutsSpec)

/-- ITS FALSE NEIGHBOUR: 'it returns false'. Refute it at one input. -/
def wireCutsWrong : ChangeSpec := { name := "wireCuts", fn := fun _ => fun
  | [d1, d2] => { results := [.lit (.bool false)], args := [d1, d2] }
  | _ => none }
def WireCutsWrongFalsely : Prop := wireCutsRow.holds Tryd.pinned (OpenSpec.ofChange wireCutsWrong)

/-- 'nightjarlaw15.WireParts': WHATEVER THE INPUT: true; the input reads as it did. -/
def wirePartsSpec : ChangeSpec := { name := "wireParts", fn := fun _ => fun
  | [d1, d2] => { results := [.lit (.bool true)], args := [d1, d2] }
  | _ => none }
def wirePartsRow : OpenClaim := { program := "ytcnojgkolpdomaadoor", sum := "ac560b3365040db3dd8aa02bbea0670e49842763b7bb83ea5b233f9ad3a2b9de", func := "nightjar/nightjarlaw15.WireParts", spec := "wireParts", named := ["nightjar/call.forms"], apart := false, laid := [("nightjar/call.forms", laid_nightjar_call_forms)] }
def WirePartsSaid : Prop := wirePartsRow.holds Tryd.pinned (OpenSpec.ofChange wirePartsSpec)

/-- ITS FALSE NEIGHBOUR: 'it returns false'. Refute it at one input. -/
def wirePartsWrong : ChangeSpec := { name := "wireParts", fn := fun _ => fun
  | [d1, d2] => { results := [.lit (.bool false)], args := [d1, d2] }
  | _ => none }
def WirePartsWrongFalsely : Prop := wirePartsRow.holds Tryd.pinned (OpenSpec.ofChange wirePartsWrong)

/-- 'nightjarlaw15.WireSpoils': WHATEVER THE INPUT: true; the input reads as it did. -/
def wireSpoilsSpec : ChangeSpec := { name := "wireSpoils", fn := fun _ => fun
  | [d1, d2, d3] => { results := [.lit (.bool true)], args := [d1, d2, d3] }
  | _ => none }
def wireSpoilsRow : OpenClaim := { program := "ytcnojgkolpdomaadoor", sum := "ac560b3365040db3dd8aa02bbea0670e49842763b7bb83ea5b233f9ad3a2b9de", func := "nightjar/nightjarlaw15.WireSpoils", spec := "wireSpoils", named := ["nightjar/call.forms"], apart := false, laid := [("nightjar/call.forms", laid_nightjar_call_forms)] }
def WireSpoilsSaid : Prop := wireSpoilsRow.holds Tryd.pinned (OpenSpec.ofChange wireSpoilsSpec)

/-- ITS FALSE NEIGHBOUR: 'it returns false'. Refute it at one input. -/
def wireSpoilsWrong : ChangeSpec := { name := "wireSpoils", fn := fun _ => fun
  | [d1, d2, d3] => { results := [.lit (.bool false)], args := [d1, d2, d3] }
  | _ => none }
def WireSpoilsWrongFalsely : Prop := wireSpoilsRow.holds Tryd.pinned (OpenSpec.ofChange wireSpoilsWrong)

/- THE SECOND FORM. 'bulk': how many values and letters a reading holds, each counted each time it is reached (what is shared counts as often as it is met; a slice's spare places count too). A statement '..UptoSaid' is the law's where the arguments, and the package variables that the reading takes, are together of bulk at most 1048576: NARROWER than '..Said'. Prove '..Said' where nothing that the law and all that it calls make is longer than what came in: it says more and counts as full. Else prove '..UptoSaid'. A law counts once. -/
mutual
def uptoBulk {H : Type} : DataW H → Nat
  | .lit (.string bytes) => bytes.length + 1
  | .lit _ => 1
  | .nil => 1
  | .ptr d => uptoBulk d + 1
  | .slice elems spare => uptoBulkAll elems + uptoBulkAll spare + 1
  | .agg parts => uptoBulkAll parts + 1
  | .iface _ d => uptoBulk d + 1
  | .map entries => uptoBulkEntries entries + 1
  | .held _ => 1
def uptoBulkAll {H : Type} : List (DataW H) → Nat
  | [] => 0
  | d :: r => uptoBulk d + uptoBulkAll r
def uptoBulkEntries {H : Type} : List (Lit × DataW H) → Nat
  | [] => 0
  | x :: r => uptoBulkEntry x + uptoBulkEntries r
def uptoBulkEntry {H : Type} : Lit × DataW H → Nat
  | (.string bytes, d) => bytes.length + uptoBulk d + 1
  | (_, d) => uptoBulk d + 1
 end
def uptoSmall : (H : Type) → List (DataW H) → Bool := fun _ ds => decide (uptoBulkAll ds ≤ 1048576)
def OpenSpec.upto (s : _root_.Go.ChangeSpec) : _root_.Go.OpenSpec := { _root_.Go.OpenSpec.ofChange s with cond := some uptoSmall }

/-- 'nightjarlaw14.CallForms', WHERE WHAT IT READS IS OF BULK AT MOST 1048576: true; the input reads as it did. -/
def callFormsUptoRow : OpenClaim := { program := "ytcnojgkolpdomaadoor", sum := "ac560b3365040db3dd8aa02bbea0670e49842763b7bb83ea5b233f9ad3a2b9de", func := "nightjar/nightjarlaw14.CallForms", spec := "callForms", named := ["nightjar/call.forms"], apart := false, laid := [("nightjar/call.forms", laid_nightjar_call_forms)], narrowed := true }
def CallFormsUptoSaid : Prop := callFormsUptoRow.holds Tryd.pinned (OpenSpec.upto callFormsSpec)

/-- 'nightjarlaw14.CallReads', WHERE WHAT IT READS IS OF BULK AT MOST 1048576: true; the input reads as it did. -/
def callReadsUptoRow : OpenClaim := { program := "ytcnojgkolpdomaadoor", sum := "ac560b3365040db3dd8aa02bbea0670e49842763b7bb83ea5b233f9ad3a2b9de", func := "nightjar/nightjarlaw14.CallReads", spec := "callReads", named := ["nightjar/call.forms"], apart := false, laid := [("nightjar/call.forms", laid_nightjar_call_forms)], narrowed := true }
def CallReadsUptoSaid : Prop := callReadsUptoRow.holds Tryd.pinned (OpenSpec.upto callReadsSpec)

/-- 'nightjarlaw14.CallBack', WHERE WHAT IT READS IS OF BULK AT MOST 1048576: true; the input reads as it did. -/
def callBackUptoRow : OpenClaim := { program := "ytcnojgkolpdomaadoor", sum := "ac560b3365040db3dd8aa02bbea0670e49842763b7bb83ea5b233f9ad3a2b9de", func := "nightjar/nightjarlaw14.CallBack", spec := "callBack", named := ["nightjar/call.forms"], apart := false, laid := [("nightjar/call.forms", laid_nightjar_call_forms)], narrowed := true }
def CallBackUptoSaid : Prop := callBackUptoRow.holds Tryd.pinned (OpenSpec.upto callBackSpec)

/-- 'nightjarlaw14.CallNames', WHERE WHAT IT READS IS OF BULK AT MOST 1048576: true; the input reads as it did. -/
def callNamesUptoRow : OpenClaim := { program := "ytcnojgkolpdomaadoor", sum := "ac560b3365040db3dd8aa02bbea0670e49842763b7bb83ea5b233f9ad3a2b9de", func := "nightjar/nightjarlaw14.CallNames", spec := "callNames", named := ["nightjar/call.forms"], apart := false, laid := [("nightjar/call.forms", laid_nightjar_call_forms)], narrowed := true }
def CallNamesUptoSaid : Prop := callNamesUptoRow.holds Tryd.pinned (OpenSpec.upto callNamesSpec)

/-- 'nightjarlaw15.WireReads', WHERE WHAT IT READS IS OF BULK AT MOST 1048576: true; the input reads as it did. -/
def wireReadsUptoRow : OpenClaim := { program := "ytcnojgkolpdomaadoor", sum := "ac560b3365040db3dd8aa02bbea0670e49842763b7bb83ea5b233f9ad3a2b9de", func := "nightjar/nightjarlaw15.WireReads", spec := "wireReads", named := ["nightjar/call.forms"], apart := false, laid := [("nightjar/call.forms", laid_nightjar_call_forms)], narrowed := true }
def WireReadsUptoSaid : Prop := wireReadsUptoRow.holds Tryd.pinned (OpenSpec.upto wireReadsSpec)

/-- 'nightjarlaw15.WireWrites', WHERE WHAT IT READS IS OF BULK AT MOST 1048576: true; the input reads as it did. -/
def wireWritesUptoRow : OpenClaim := { program := "ytcnojgkolpdomaadoor", sum := "ac560b3365040db3dd8aa02bbea0670e49842763b7bb83ea5b233f9ad3a2b9de", func := "nightjar/nightjarlaw15.WireWrites", spec := "wireWrites", named := ["nightjar/call.forms"], apart := false, laid := [("nightjar/call.forms", laid_nightjar_call_forms)], narrowed := true }
def WireWritesUptoSaid : Prop := wireWritesUptoRow.holds Tryd.pinned (OpenSpec.upto wireWritesSpec)

/-- 'nightjarlaw15.WireBack', WHERE WHAT IT READS IS OF BULK AT MOST 1048576: true; the input reads as it did. -/
def wireBackUptoRow : OpenClaim := { program := "ytcnojgkolpdomaadoor", sum := "ac560b3365040db3dd8aa02bbea0670e49842763b7bb83ea5b233f9ad3a2b9de", func := "nightjar/nightjarlaw15.WireBack", spec := "wireBack", named := ["nightjar/call.forms"], apart := false, laid := [("nightjar/call.forms", laid_nightjar_call_forms)], narrowed := true }
def WireBackUptoSaid : Prop := wireBackUptoRow.holds Tryd.pinned (OpenSpec.upto wireBackSpec)

/-- 'nightjarlaw15.WireCuts', WHERE WHAT IT READS IS OF BULK AT MOST 1048576: true; the input reads as it did. -/
def wireCutsUptoRow : OpenClaim := { program := "ytcnojgkolpdomaadoor", sum := "ac560b3365040db3dd8aa02bbea0670e49842763b7bb83ea5b233f9ad3a2b9de", func := "nightjar/nightjarlaw15.WireCuts", spec := "wireCuts", named := ["nightjar/call.forms"], apart := false, laid := [("nightjar/call.forms", laid_nightjar_call_forms)], narrowed := true }
def WireCutsUptoSaid : Prop := wireCutsUptoRow.holds Tryd.pinned (OpenSpec.upto wireCutsSpec)

/-- 'nightjarlaw15.WireParts', WHERE WHAT IT READS IS OF BULK AT MOST 1048576: true; the input reads as it did. -/
def wirePartsUptoRow : OpenClaim := { program := "ytcnojgkolpdomaadoor", sum := "ac560b3365040db3dd8aa02bbea0670e49842763b7bb83ea5b233f9ad3a2b9de", func := "nightjar/nightjarlaw15.WireParts", spec := "wireParts", named := ["nightjar/call.forms"], apart := false, laid := [("nightjar/call.forms", laid_nightjar_call_forms)], narrowed := true }
def WirePartsUptoSaid : Prop := wirePartsUptoRow.holds Tryd.pinned (OpenSpec.upto wirePartsSpec)

/-- 'nightjarlaw15.WireSpoils', WHERE WHAT IT READS IS OF BULK AT MOST 1048576: true; the input reads as it did. -/
def wireSpoilsUptoRow : OpenClaim := { program := "ytcnojgkolpdomaadoor", sum := "ac560b3365040db3dd8aa02bbea0670e49842763b7bb83ea5b233f9ad3a2b9de", func := "nightjar/nightjarlaw15.WireSpoils", spec := "wireSpoils", named := ["nightjar/call.forms"], apart := false, laid := [("nightjar/call.forms", laid_nightjar_call_forms)], narrowed := true }
def WireSpoilsUptoSaid : Prop := wireSpoilsUptoRow.holds Tryd.pinned (OpenSpec.upto wireSpoilsSpec)

end Rows
end Go.Proofs.YtcnojgkolpdomaaDoor
