/-
  No cell of these rows narrows 'for every input' (looked for: loops, veiled, ifaces, maps, wideKeys, modest, calm, conditions, laid).
  DERIVED. THE GIVEN ROWS OF THIS SEAT. 4 by the template 'for every input the law returns true; each argument reads behind the call as it read before'; 0 by the template 'total and deterministic' (their statements: YtijgdlanjhcabaaTotals.lean).
  GIVEN WITH THE SEED: the statements are not yours to turn. If you find one false, say at which input.
  Laid BY PROGRAM, IN A SANDBOX (cutbox-rows.mjs): the forced cells as the released guide's own fill.sh prints them over the translation 58644756b246bd10… (all of the seat's roots in one cut). By AI agents, Wed Nov 11 2026. No macro, syntax, notation, axiom, sorry.
-/
import Derived.Test.YtijgdlanjhcabaaChecked
import GoSem.Claim
import GoSem.ClaimJoined
import GoSem.ClaimMapViews
import Derived.JoinedTies
import Derived.KernelRfl
namespace Go.Proofs.Ytijgdlanjhcabaa
/- THE CELL 'sum', in the pinned program and in every row, IS THE sha256 OF THE DUMP (.gsa) THAT YtijgdlanjhcabaaProg.lean LOADS. Nothing in Lean hashes anything: it is a label: what it is worth is what the hold of that sum in a sandbox is worth. -/
noncomputable def Try.pinned : Pinned := { name := "ytijgdlanjhcabaa", sum := "58644756b246bd108dd171e9c9f8f6519e0f0a2af8f3452aa48e392d7a125abd", checked := Try.checked }
namespace Rows
def none {H : Type} : Left H := { results := [], args := [] }

/-- 'nightjarlaw10.BoxPlays': WHATEVER THE INPUT: true; the input reads as it did. -/
def boxPlaysSpec : ChangeSpec := { name := "boxPlays", fn := fun _ => fun
  | [d1, d2, d3] => { results := [.lit (.bool true)], args := [d1, d2, d3] }
  | _ => none }
def boxPlaysRow : OpenClaim := { program := "ytijgdlanjhcabaa", sum := "58644756b246bd108dd171e9c9f8f6519e0f0a2af8f3452aa48e392d7a125abd", func := "nightjar/nightjarlaw10.BoxPlays", spec := "boxPlays", unfollowed := true, recurses := true, apart := false }
def BoxPlaysSaid : Prop := boxPlaysRow.holds Try.pinned (OpenSpec.ofChange boxPlaysSpec)

/-- ITS FALSE NEIGHBOUR: 'it returns false'. Refute it at one input. -/
def boxPlaysWrong : ChangeSpec := { name := "boxPlays", fn := fun _ => fun
  | [d1, d2, d3] => { results := [.lit (.bool false)], args := [d1, d2, d3] }
  | _ => none }
def BoxPlaysWrongFalsely : Prop := boxPlaysRow.holds Try.pinned (OpenSpec.ofChange boxPlaysWrong)

/-- 'nightjarlaw10.BoxOrders': WHATEVER THE INPUT: true; the input reads as it did. -/
def boxOrdersSpec : ChangeSpec := { name := "boxOrders", fn := fun _ => fun
  | [d1, d2, d3] => { results := [.lit (.bool true)], args := [d1, d2, d3] }
  | _ => none }
def boxOrdersRow : OpenClaim := { program := "ytijgdlanjhcabaa", sum := "58644756b246bd108dd171e9c9f8f6519e0f0a2af8f3452aa48e392d7a125abd", func := "nightjar/nightjarlaw10.BoxOrders", spec := "boxOrders", unfollowed := true, recurses := true, apart := false }
def BoxOrdersSaid : Prop := boxOrdersRow.holds Try.pinned (OpenSpec.ofChange boxOrdersSpec)

/-- ITS FALSE NEIGHBOUR: 'it returns false'. Refute it at one input. -/
def boxOrdersWrong : ChangeSpec := { name := "boxOrders", fn := fun _ => fun
  | [d1, d2, d3] => { results := [.lit (.bool false)], args := [d1, d2, d3] }
  | _ => none }
def BoxOrdersWrongFalsely : Prop := boxOrdersRow.holds Try.pinned (OpenSpec.ofChange boxOrdersWrong)

/-- 'nightjarlaw10.BoxKinds': WHATEVER THE INPUT: true; the input reads as it did. -/
def boxKindsSpec : ChangeSpec := { name := "boxKinds", fn := fun _ => fun
  | [d1, d2, d3, d4] => { results := [.lit (.bool true)], args := [d1, d2, d3, d4] }
  | _ => none }
def boxKindsRow : OpenClaim := { program := "ytijgdlanjhcabaa", sum := "58644756b246bd108dd171e9c9f8f6519e0f0a2af8f3452aa48e392d7a125abd", func := "nightjar/nightjarlaw10.BoxKinds", spec := "boxKinds", apart := false }
def BoxKindsSaid : Prop := boxKindsRow.holds Try.pinned (OpenSpec.ofChange boxKindsSpec)

/-- ITS FALSE NEIGHBOUR: 'it returns false'. Refute it at one input. -/
def boxKindsWrong : ChangeSpec := { name := "boxKinds", fn := fun _ => fun
  | [d1, d2, d3, d4] => { results := [.lit (.bool false)], args := [d1, d2, d3, d4] }
  | _ => none }
def BoxKindsWrongFalsely : Prop := boxKindsRow.holds Try.pinned (OpenSpec.ofChange boxKindsWrong)

/-- 'nightjarlaw10.BoxSifts': WHATEVER THE INPUT: true; the input reads as it did. -/
def boxSiftsSpec : ChangeSpec := { name := "boxSifts", fn := fun _ => fun
  | [d1, d2] => { results := [.lit (.bool true)], args := [d1, d2] }
  | _ => none }
def boxSiftsRow : OpenClaim := { program := "ytijgdlanjhcabaa", sum := "58644756b246bd108dd171e9c9f8f6519e0f0a2af8f3452aa48e392d7a125abd", func := "nightjar/nightjarlaw10.BoxSifts", spec := "boxSifts", unfollowed := true, recurses := true, apart := false }
def BoxSiftsSaid : Prop := boxSiftsRow.holds Try.pinned (OpenSpec.ofChange boxSiftsSpec)

/-- ITS FALSE NEIGHBOUR: 'it returns false'. Refute it at one input. -/
def boxSiftsWrong : ChangeSpec := { name := "boxSifts", fn := fun _ => fun
  | [d1, d2] => { results := [.lit (.bool false)], args := [d1, d2] }
  | _ => none }
def BoxSiftsWrongFalsely : Prop := boxSiftsRow.holds Try.pinned (OpenSpec.ofChange boxSiftsWrong)

/- THE SECOND FORM. 'bulk': how many values and letters a reading holds, each counted each time it is reached (what is shared counts as often as it is met; a slice's spare places count too). A statement '..UptoSaid' is the law's where the arguments, and the package variables that the reading takes, are together of bulk at most 1048576: NARROWER than '..Said'. Prove '..Said' where nothing that the law and all that it calls make is longer than what came in: it says more and counts as full. Else prove '..UptoSaid'. A law counts once. -/
mutual
def uptoBulk {H : Type} : DataW H → Nat
  | .lit (.string bytes) => bytes.length + 1
  | .lit _ => 1
  | .nil => 1
  | .ptr d => uptoBulk d + 1
  | .slice elems spare => uptoBulkAll elems + uptoBulkAll spare + 1
  | .agg parts => uptoBulkAll parts + 1
  | .iface _ d => uptoBulk d + 1
  | .map entries => uptoBulkEntries entries + 1
  | .held _ => 1
def uptoBulkAll {H : Type} : List (DataW H) → Nat
  | [] => 0
  | d :: r => uptoBulk d + uptoBulkAll r
def uptoBulkEntries {H : Type} : List (Lit × DataW H) → Nat
  | [] => 0
  | x :: r => uptoBulkEntry x + uptoBulkEntries r
def uptoBulkEntry {H : Type} : Lit × DataW H → Nat
  | (.string bytes, d) => bytes.length + uptoBulk d + 1
  | (_, d) => uptoBulk d + 1
 end
def uptoSmall : (H : Type) → List (DataW H) → Bool := fun _ ds => decide (uptoBulkAll ds ≤ 1048576)
def OpenSpec.upto (s : _root_.Go.ChangeSpec) : _root_.Go.OpenSpec := { _root_.Go.OpenSpec.ofChange s with cond := some uptoSmall }

/-- 'nightjarlaw10.BoxPlays', WHERE WHAT IT READS IS OF BULK AT MOST 1048576: true; the input reads as it did. -/
def boxPlaysUptoRow : OpenClaim := { program := "ytijgdlanjhcabaa", sum := "58644756b246bd108dd171e9c9f8f6519e0f0a2af8f3452aa48e392d7a125abd", func := "nightjar/nightjarlaw10.BoxPlays", spec := "boxPlays", unfollowed := true, recurses := true, apart := false, narrowed := true }
def BoxPlaysUptoSaid : Prop := boxPlaysUptoRow.holds Try.pinned (OpenSpec.upto boxPlaysSpec)

/-- 'nightjarlaw10.BoxOrders', WHERE WHAT IT READS IS OF BULK AT MOST 1048576: true; the input reads as it did. -/
def boxOrdersUptoRow : OpenClaim := { program := "ytijgdlanjhcabaa", sum := "58644756b246bd108dd171e9c9f8f6519e0f0a2af8f3452aa48e392d7a125abd", func := "nightjar/nightjarlaw10.BoxOrders", spec := "boxOrders", unfollowed := true, recurses := true, apart := false, narrowed := true }
def BoxOrdersUptoSaid : Prop := boxOrdersUptoRow.holds Try.pinned (OpenSpec.upto boxOrdersSpec)

/-- 'nightjarlaw10.BoxKinds', WHERE WHAT IT READS IS OF BULK AT MOST 1048576: true; the input reads as it did. -/
def boxKindsUptoRow : OpenClaim := { program := "ytijgdlanjhcabaa", sum := "58644756b246bd108dd171e9c9f8f6519e0f0a2af8f3452aa48e392d7a125abd", func := "nightjar/nightjarlaw10.BoxKinds", spec := "boxKinds", apart := false, narrowed := true }
def BoxKindsUptoSaid : Prop := boxKindsUptoRow.holds Try.pinned (OpenSpec.upto boxKindsSpec)

/-- 'nightjarlaw10.BoxSifts', WHERE WHAT IT READS IS OF BULK AT MOST 1048576: true; the input reads as it did. -/
def boxSiftsUptoRow : OpenClaim := { program := "ytijgdlanjhcabaa", sum := "58644756b246bd108dd171e9c9f8f6519e0f0a2af8f3452aa48e392d7a125abd", func := "nightjar/nightjarlaw10.BoxSifts", spec := "boxSifts", unfollowed := true, recurses := true, apart := false, narrowed := true }
def BoxSiftsUptoSaid : Prop := boxSiftsUptoRow.holds Try.pinned (OpenSpec.upto boxSiftsSpec)

end Rows
end Go.Proofs.Ytijgdlanjhcabaa
