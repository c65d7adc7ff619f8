/-
  AlarmOrders: timers that are due at one step come by their times, and of one time as they were set; a timer that is set anew counts as set then. The card ties the table deBruijn64tab of package math/bits to the program's text (the pruned copy); no other conditions.
-/
import Derived.Test.YtkkodhjolgcokaaDoorJoin4
import Derived.Test.YtkkodhjolgcokaaDoorJoin5
import Derived.Test.YtkkodhjolgcokaaDoorTie
import Derived.Test.YtkkodhjolgcokaaDoorCards
import Derived.SevenTiedAt
import Derived.Test.YtkkodhjolgcokaaDoorJoin15
namespace Go.Proofs.YtkkodhjolgcokaaDoor.alarmOrders
open Go.ChangeShapes Go.WideShapes Go.ChangeAt Go.RowKit

theorem types_ok : ∀ t ∈ [23, 30], Tryd.prog.readableRec t = true ∧ t < Tryd.prog.types.size := by
  intro t ht
  have h : ([23, 30].all fun t => Tryd.prog.readableRec t && decide (t < Tryd.prog.types.size)) = true := by kernel_rfl
  have := List.all_eq_true.1 h t ht
  simpa using this

set_option maxRecDepth 100000 in
theorem lifted (os : Os) (started : os.Started) (H : Type) (enc : TypeId × Value → H) :
    ReturnsInHanded {} Tryd.checked os 4 .any (fun w args => (Rows.alarmOrdersSpec.pre enc Tryd.prog Tryd.f4 [] false w args ∧ laidMetH Tryd.prog tabs w) ∧ sizedMet enc Tryd.prog Tryd.f4 (OpenSpec.ofChange Rows.alarmOrdersSpec) false w args)
      (Rows.alarmOrdersSpec.post enc Tryd.prog Tryd.f4 false true false false) := by
  refine returnsInHanded_of_change_and (C := Tryd.checked) (X := fun w _ => laidMetH Tryd.prog tabs w) (fun _ _ _ hh h => h.of_heap hh) own started (by kernel_rfl) Tryd.func4
    (ChangeSpec.witness_shaped (enc := enc) (C := Tryd.checked) (os := os) (X := fun w _ => laidMetH Tryd.prog tabs w) false (World.doorLaid Tryd.prog 400 os) #[.slice none 0 0, .slice none 0 0] 8 rfl (World.shaped_of_RefB (by kernel_rfl) (by kernel_rfl)) (by kernel_rfl) (by kernel_rfl) (by kernel_rfl) (door_met os _)) ?_
  intro W base args ds gs before hval0 hW _ _ hL _
  have hval : ∀ (j : Nat) t v, Tryd.f4.params[j]? = some t → args[j]? = some v → Value.okWide Tryd.prog W .any base t v := hval0
  have hW' := hW
  obtain ⟨p, q, hA0, hV, rfl, hfz, hnd⟩ := hW
  have hA : DataW.TrodAll enc Tryd.prog W 0 (fun _ => true) true Tryd.f4.params.toList args.toList ds p := hA0
  obtain ⟨rfl, rfl⟩ := trodVars_none hV
  simp only [List.append_nil] at hW'
  have hlt : ∀ x ∈ p, x.block < W.heap.size := fun x hx => hW'.lt x hx
  have hAk : ∀ (W' : World) (sp : Nat → Bool), W.grownBy W' none → (∀ x ∈ p, sp x.block = true) → DataW.TrodAll enc Tryd.prog W' 0 sp true Tryd.f4.params.toList args.toList ds p :=
    fun W' sp hg hs => trodAll_stays laidOut (below_of_grown hg) (by rw [Tryd.params4]; exact types_ok) hA hlt hs
  rw [Tryd.params4] at hA hval
  obtain ⟨v0, vs0, d0, ds0, p0, q0, hargs, rfl, rfl, h0, r0⟩ := trodAll_cons hA
  obtain ⟨v1, vs1, d1, ds1, p1, q1, rfl, rfl, rfl, h1, r1⟩ := trodAll_cons r0
  obtain ⟨rfl, rfl, rfl⟩ := trodAll_nil r1
  obtain rfl : args = #[v0, v1] := by cases args; simp_all
  obtain ⟨sa0, len0, cap0, sb0, off0, zs0, rfl, hm0, hs0, hz0⟩ := open_wordsb Tryd.underlying23 Tryd.underlying22 (by kernel_rfl) (hval 0 23 v0 rfl rfl) h0
  obtain ⟨sa1, len1, cap1, sb1, off1, zs1, rfl, hm1, hs1, hz1⟩ := open_list Tryd.underlying30 Tryd.underlying3 (by kernel_rfl) (hval 1 30 v1 rfl rfl) h1
  refine (orders_walk8 sa0 len0 cap0 sb0 off0 zs0 sa1 len1 cap1 sb1 off1 zs1 W (tab_of_laid hL) hm0 hs0 hz0 hm1 hs1 hz1).mono fun e W' ⟨he, hg⟩ => ?_
  subst he
  exact ⟨_, rfl, post_of_grown (pa := _) (pv := []) hW' (fun _ _ _ => (trodAll_cons_mk (shut_bool Tryd.underlying4 _) trodAll_mk0)) (fun sp hsp => hAk W' sp hg hsp) (fun _ _ => rfl) (by simp)
    hg (ok_one (by kernel_rfl) rfl (okWide_bool_mk Tryd.underlying4 _))⟩

theorem over : Rows.AlarmOrdersSaid :=
  OpenClaim.holds_of_wide 4 Tryd.f4 rfl rfl rfl rfl rfl rfl rfl ⟨rfl, rfl, rfl, rfl, rfl⟩ rfl rfl rfl rfl rfl (by kernel_rfl) Tryd.func4 (by kernel_rfl)
    (of_decide_eq_true (by kernel_rfl)) (by unfold Func.isWrapper; first | (rw [if_pos (by decide +kernel)]; kernel_rfl) | (rw [if_neg (by decide +kernel)]; exact ⟨rfl, rfl⟩))
    (fun os started H enc _ => lifted os started H enc)

end Go.Proofs.YtkkodhjolgcokaaDoor.alarmOrders
namespace Go.Proofs.YtkkodhjolgcokaaDoor
open Go
theorem alarmOrders_holds : Rows.AlarmOrdersCardSaid :=
  Claim7.holds_tied_plain_at .later [] [.data] true _ false
    alarmOrders.over (fun _ h => by cases h) (by kernel_rfl) (fun _ h => by cases h) alarmOrders_row_tie rfl ⟨rfl, rfl⟩ (by kernel_rfl) rfl
    (fun f fn hf hfn => by
      obtain rfl : f = 4 := Option.some.inj ((show Tryd.prog.funcNamed "nightjar/nightjarlaw08.AlarmOrders" = some 4 by kernel_rfl).symm.trans hf) |>.symm
      obtain rfl : fn = Tryd.f4 := (Option.some.inj (Tryd.func4.symm.trans hfn)).symm
      exact ⟨by kernel_rfl, fun j t ht => by
        rw [Tryd.params4] at ht
        have hm : t ∈ [23, 30] := by simpa using Array.mem_of_getElem? ht
        have hall : ([23, 30].all fun u => !Tryd.prog.wantsStandIn u) = true := by kernel_rfl
        exact (show Tryd.prog.wantsStandIn t = false by simpa using List.all_eq_true.1 hall t hm)⟩)
    (by kernel_rfl)
end Go.Proofs.YtkkodhjolgcokaaDoor
