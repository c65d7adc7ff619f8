/-
  The document's Sift (nightjarref10), over this seat's translation.
-/
import Derived.Test.YtijgdlanjhcabaaRef10
namespace Go.Proofs.Ytijgdlanjhcabaa
open Go.RowKit Go.Lib Go.Conc
set_option maxRecDepth 100000
set_option linter.unusedVariables false
def isnt (z y : Int) : Bool := decide (y ≠ z)
section
variable {w w' : World} {v : Value} {F : List Int}
set_option maxHeartbeats 4000000 in
theorem sift_ref (z : Int) (h : RI w v F) (hF : F.length ≤ 4096) : Calls Try.prog 29 #[v, .int .i64 z] w fun e w' => (∃ v', e = .returned (.tuple #[v', .int .i64 (F.length - (F.filter (isnt z)).length : Nat)]) ∧ RI w' v' (F.filter (isnt z))) ∧ w.grownBy w' none := by
  have HR := Lib.hid h
  obtain ⟨a, cap, rfl, _, _, _⟩ := id h
  have ka := World.grownBy_alloc w (.cells #[] 3) none
  have OW := Lib.hid (litZ w w.heap.size (Nat.le_refl _))
  have KA := Lib.hid ka
  obtain ⟨i0, hi0, hi1, hi2, hi3⟩ := BI.int_info
  have I0 := Lib.hid hi0
  have I1 := Lib.hid hi1
  have I2 := Lib.hid hi2
  have I3 := Lib.hid hi3
  clear hi0 hi1 hi2 hi3 ka h
  go_enter Try.func29, Try.ntmps29
  go_wp2_with fail
  generalize w.alloc (.cells #[] 3) = w0 at *
  go_loopw [6, 7] (fun vo it wr => ∃ (j : Nat), j ≤ F.length ∧ it = .int .i64 j ∧ Hid (wr.ownsRow w.heap.size 3 1 vo ((F.take j).filter (isnt z)).length (zints ((F.take j).filter (isnt z)))) ∧ Hid (w.grownBy wr none)) (fun _ it _ => F.length - (Go.RowKit.intOf it).toNat)
  case atStart => exact ⟨0, Nat.zero_le _, rfl, OW, KA⟩
  case round =>
    obtain ⟨j, hj, rfl, OR, GW⟩ := hrel
    clear OW KA
    obtain ⟨so, co, rfl, _, _⟩ := BI.own_at OR.out
    by_cases hlt : j < F.length
    · have qj : (j : Int) < (F.length : Int) := by omega
      obtain ⟨_, _, e, hc⟩ := (HR.out.kept GW.out).reads
      obtain ⟨b, o, e2, _, c1⟩ := hc j hlt
      injection e with e3 _ _
      subst e3
      subst e2
      have hfs := BI.filter_take_succ (isnt z) hlt
      generalize F[j] = y at *
      generalize hG : (F.take j).filter (isnt z) = G at *
      have hGl : G.length ≤ 4096 := by rw [← hG]; have := List.length_filter_le (isnt z) (F.take j); simp at this; omega
      clear hG
      by_cases hy : y = z
      · subst hy
        have HFS : Hid ((F.take (j + 1)).filter (isnt y) = G) := Lib.hid (by rw [hfs]; simp [isnt])
        clear hfs
        go_wp2
        go_roundw
        case rel => exact ⟨j + 1, hlt, by go_num, Lib.hid (by rw [HFS.out]; exact OR.out), GW⟩
        case measure => simp [Go.RowKit.intOf]; omega
      · have HFS : Hid ((F.take (j + 1)).filter (isnt z) = G ++ [y]) := Lib.hid (by rw [hfs]; simp [isnt, hy])
        have q2 : (y != z) = true := by simp [hy]
        clear hfs
        have ka := World.grownBy_alloc wr (.cells #[.int .i64 y] 3) none
        have SR := Lib.hid (BI.src_one wr (.int .i64 y) 3 rfl)
        have O4 := Lib.hid (OR.out.alloc (.cells #[.int .i64 y] 3))
        have G4 := Lib.hid (GW.out.trans ka)
        have hb4 : Hid (w.heap.size ≤ (wr.alloc (.cells #[.int .i64 y] 3)).heap.size) := Lib.hid (Nat.le_trans GW.out.size ka.size)
        clear ka OR GW
        go_wp2_with (
          at_builtin
          refine wpList_append_src _ rfl _ _ 28 rfl w.heap.size 3 i0 (.int .i64 0) 1 8 Try.underlying28 I0.out I1.out I2.out I3.out rfl (by decide) _ _ _ rfl O4.out _ 1 _ rfl SR.out (by unfold maxLen; omega) (by omega) hb4.out ?_
          intro v' w5 hown' hgrow hnil hat
          have G5 : Hid (w.grownBy w5 none) := Lib.hid ⟨hgrow.os.trans G4.out.os, hgrow.tape.trans G4.out.tape, hgrow.output.trans G4.out.output, Nat.le_trans hb4.out hgrow.size, fun j hj _ => (hgrow.block j (Nat.lt_of_lt_of_le hj hb4.out) (fun e => by have := (O4.out.lt j e.symm).1; omega)).trans (G4.out.block j hj (by simp))⟩
          have O5 : Hid (w5.ownsRow w.heap.size 3 1 v' (G ++ [y]).length (zints (G ++ [y]))) := Lib.hid (by simpa [zints] using hown')
          clear hown' hgrow hnil hat O4 SR hb4 G4)
        have O6 : Hid (w5.ownsRow w.heap.size 3 1 v' ((F.take (j + 1)).filter (isnt z)).length (zints ((F.take (j + 1)).filter (isnt z)))) := Lib.hid (by rw [HFS.out]; exact O5.out)
        clear O5
        go_wp2
        go_roundw
        case rel => first | exact ⟨j + 1, hlt, by go_num, O6, G5⟩ | exact ⟨j + 1, hlt, by go_num, O6⟩
        case measure => simp [Go.RowKit.intOf]; omega
    · obtain rfl : j = F.length := by omega
      rw [List.take_length] at OR ⊢
      obtain ⟨G, hG⟩ : ∃ G, F.filter (isnt z) = G := ⟨_, rfl⟩
      rw [hG] at OR
      try rw [hG]
      have HG := Lib.hid hG
      have hGl : G.length ≤ F.length := by rw [← hG]; exact List.length_filter_le ..
      have q : IntKind.i64.wrap ((F.length : Int) - (G.length : Int)) = ((F.length - G.length : Nat) : Int) := by rw [IntKind.wrap_i64]; omega
      have R := Lib.hid (ri_own OR.out)
      clear OR hG
      go_wp2
      go_ret2
      refine ⟨⟨.slice so G.length co, ?_, ?_⟩, GW.out⟩
      · try rw [HG.out]
        rfl
      · try rw [HG.out]
        exact R.out
end
end Go.Proofs.Ytijgdlanjhcabaa
