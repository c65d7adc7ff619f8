/-
  The document's answers for queue (nightjarref12): Drop, Pop.
-/
import Derived.Test.YtmmpnfkfieikcaaRef12b
import Derived.Deep.Cut
namespace Go.Proofs.Ytmmpnfkfieikcaa
open Go.RowKit Go.Lib
set_option maxRecDepth 100000
set_option linter.unusedVariables false
section
variable {w w' : World} {B : Nat} {v : Value} {F : List (Int × Int)}
set_option maxHeartbeats 8000000 in
theorem ref_drop_no (T D M k i : Int) (h : w.ownsRow B 35 2 v F.length (cellsP F)) (hF : F.length ≤ 100000) (hH : (k, i) ∉ F) :
    Calls Try.prog 10 #[.agg #[.int .i64 T, .int .i64 D, .int .i64 M, v], .agg #[.int .i64 k, .int .i64 i]] w fun e w' => e = .returned (.tuple #[.agg #[.int .i64 T, .int .i64 D, .int .i64 M, v], .bool false]) ∧ w.grownBy w' none := by
  obtain ⟨sa, cap, rfl, _, _⟩ := own_formP h
  have HC := Lib.hid (facts12 T D M k i sa F.length cap w)
  have K0 : Hid (w.grownBy (((w.alloc (.cells #[.int .i64 T, .int .i64 D, .int .i64 M, .slice sa F.length cap] 30)).alloc (.cells #[.int .i64 k, .int .i64 i] 35)).alloc (.cells #[.int .i64 0, .int .i64 0, .int .i64 0, .slice none 0 0] 30)) none) := Lib.hid (ga _ (ga _ (World.grownBy_alloc w _ none)))
  have HO : Hid (∀ x, (((w.alloc (.cells #[.int .i64 T, .int .i64 D, .int .i64 M, .slice sa F.length cap] 30)).alloc (.cells #[.int .i64 k, .int .i64 i] 35)).alloc (.cells #[.int .i64 0, .int .i64 0, .int .i64 0, .slice none 0 0] 30)).grownBy x none → x.ownsRow B 35 2 (.slice sa F.length cap) F.length (cellsP F)) := Lib.hid fun x kx => own_keepP h (K0.out.trans kx)
  have CH : Hid (∀ x, (((w.alloc (.cells #[.int .i64 T, .int .i64 D, .int .i64 M, .slice sa F.length cap] 30)).alloc (.cells #[.int .i64 k, .int .i64 i] 35)).alloc (.cells #[.int .i64 0, .int .i64 0, .int .i64 0, .slice none 0 0] 30)).grownBy x none → Calls Try.prog 22 #[.agg #[.int .i64 T, .int .i64 D, .int .i64 M, .slice sa F.length cap], .agg #[.int .i64 k, .int .i64 i]] x fun e w' => e = .returned (.bool false) ∧ x.grownBy w' none) := Lib.hid fun x kx => by
    have := ref_has T D M k i (HO.out x kx) hF
    rwa [decide_eq_false hH] at this
  have hus : Hid ((((w.alloc (.cells #[.int .i64 T, .int .i64 D, .int .i64 M, .slice sa F.length cap] 30)).alloc (.cells #[.int .i64 k, .int .i64 i] 35)).alloc (.cells #[.int .i64 0, .int .i64 0, .int .i64 0, .slice none 0 0] 30)).heap.size = w.heap.size + 3) := Lib.hid (by rw [World.size_alloc, World.size_alloc, World.size_alloc])
  have G0 := Lib.hid (World.grownBy.refl (((w.alloc (.cells #[.int .i64 T, .int .i64 D, .int .i64 M, .slice sa F.length cap] 30)).alloc (.cells #[.int .i64 k, .int .i64 i] 35)).alloc (.cells #[.int .i64 0, .int .i64 0, .int .i64 0, .slice none 0 0] 30)) none)
  obtain ⟨⟨a0, a1, a2, a3, a4, a5⟩, _, _⟩ := HC.out _ G0.out
  go_enter Try.func10, Try.ntmps10
  go_wp2_with fail
  clear h
  generalize (((w.alloc (.cells #[.int .i64 T, .int .i64 D, .int .i64 M, .slice sa F.length cap] 30)).alloc (.cells #[.int .i64 k, .int .i64 i] 35)).alloc (.cells #[.int .i64 0, .int .i64 0, .int .i64 0, .slice none 0 0] 30)) = u0 at *
  refine (CH.out _ G0.out).mono ?_
  rintro e u1 ⟨rfl, k1⟩
  have G1 := Lib.hid (G0.out.trans k1)
  obtain ⟨⟨b0, b1, b2, b3, b4, b5⟩, ⟨r0, r1, r2, r3⟩, f0, f1, f2, f3, f4⟩ := HC.out _ G1.out
  clear a0 a1 a2 a3 a4 a5 k1 G0 CH
  go_wp2
  obtain ⟨x0, x1, x2, x3⟩ := set4 (.int .i64 T) (.int .i64 D) (.int .i64 M) (.slice sa F.length cap) r0 r1 r2 r3
  exact bodyPost_ret (v := .tuple #[.agg #[.int .i64 T, .int .i64 D, .int .i64 M, .slice sa F.length cap], .bool false]) (by simp [results, Try.results10, go_sem, x0, x1, x2, x3]) rfl ⟨rfl, grown_above (grown_above (grown_above (grown_above (K0.out.trans G1.out) (by omega) 0 _) (by omega) 1 _) (by omega) 2 _) (by omega) 3 _⟩
/-- All but one thing. -/
def butT (F : List (Int × Int)) (k i : Int) : List (Int × Int) := F.filter fun x => decide (x ≠ (k, i))
set_option maxHeartbeats 8000000 in
theorem ref_drop_yes (T D M k i : Int) (h : w.ownsRow B 35 2 v F.length (cellsP F)) (hF : F.length ≤ 100000) (hH : (k, i) ∈ F) :
    Calls Try.prog 10 #[.agg #[.int .i64 T, .int .i64 D, .int .i64 M, v], .agg #[.int .i64 k, .int .i64 i]] w fun e w' => (∃ v', e = .returned (.tuple #[.agg #[.int .i64 T, .int .i64 D, .int .i64 M, v'], .bool true]) ∧ w'.ownsRow w.heap.size 35 2 v' (butT F k i).length (cellsP (butT F k i))) ∧ w.grownBy w' none := by
  obtain ⟨sa, cap, rfl, _, _⟩ := own_formP h
  have HC := Lib.hid (facts12 T D M k i sa F.length cap w)
  have K0 : Hid (w.grownBy (((w.alloc (.cells #[.int .i64 T, .int .i64 D, .int .i64 M, .slice sa F.length cap] 30)).alloc (.cells #[.int .i64 k, .int .i64 i] 35)).alloc (.cells #[.int .i64 0, .int .i64 0, .int .i64 0, .slice none 0 0] 30)) none) := Lib.hid (ga _ (ga _ (World.grownBy_alloc w _ none)))
  have HO : Hid (∀ x, (((w.alloc (.cells #[.int .i64 T, .int .i64 D, .int .i64 M, .slice sa F.length cap] 30)).alloc (.cells #[.int .i64 k, .int .i64 i] 35)).alloc (.cells #[.int .i64 0, .int .i64 0, .int .i64 0, .slice none 0 0] 30)).grownBy x none → x.ownsRow B 35 2 (.slice sa F.length cap) F.length (cellsP F)) := Lib.hid fun x kx => own_keepP h (K0.out.trans kx)
  have CH : Hid (∀ x, (((w.alloc (.cells #[.int .i64 T, .int .i64 D, .int .i64 M, .slice sa F.length cap] 30)).alloc (.cells #[.int .i64 k, .int .i64 i] 35)).alloc (.cells #[.int .i64 0, .int .i64 0, .int .i64 0, .slice none 0 0] 30)).grownBy x none → Calls Try.prog 22 #[.agg #[.int .i64 T, .int .i64 D, .int .i64 M, .slice sa F.length cap], .agg #[.int .i64 k, .int .i64 i]] x fun e w' => e = .returned (.bool true) ∧ x.grownBy w' none) := Lib.hid fun x kx => by
    have := ref_has T D M k i (HO.out x kx) hF
    rwa [decide_eq_true hH] at this
  have hus : Hid ((((w.alloc (.cells #[.int .i64 T, .int .i64 D, .int .i64 M, .slice sa F.length cap] 30)).alloc (.cells #[.int .i64 k, .int .i64 i] 35)).alloc (.cells #[.int .i64 0, .int .i64 0, .int .i64 0, .slice none 0 0] 30)).heap.size = w.heap.size + 3) := Lib.hid (by rw [World.size_alloc, World.size_alloc, World.size_alloc])
  have G0 := Lib.hid (World.grownBy.refl (((w.alloc (.cells #[.int .i64 T, .int .i64 D, .int .i64 M, .slice sa F.length cap] 30)).alloc (.cells #[.int .i64 k, .int .i64 i] 35)).alloc (.cells #[.int .i64 0, .int .i64 0, .int .i64 0, .slice none 0 0] 30)) none)
  obtain ⟨⟨a0, a1, a2, a3, a4, a5⟩, _, _⟩ := HC.out _ G0.out
  go_enter Try.func10, Try.ntmps10
  go_wp2_with fail
  clear h
  generalize (((w.alloc (.cells #[.int .i64 T, .int .i64 D, .int .i64 M, .slice sa F.length cap] 30)).alloc (.cells #[.int .i64 k, .int .i64 i] 35)).alloc (.cells #[.int .i64 0, .int .i64 0, .int .i64 0, .slice none 0 0] 30)) = u0 at *
  refine (CH.out _ G0.out).mono ?_
  rintro e u1 ⟨rfl, k1⟩
  have G1 := Lib.hid (G0.out.trans k1)
  obtain ⟨⟨b0, b1, b2, b3, b4, b5⟩, ⟨r0, r1, r2, r3⟩, f0, f1, f2, f3, f4⟩ := HC.out _ G1.out
  clear a0 a1 a2 a3 a4 a5 k1 G0 CH
  have hR0 : Hid ((u1.alloc (.cells #[] 35)).ownsRow u0.heap.size 35 2 (.slice (some ⟨u1.heap.size, 0, none⟩) 0 0) (butT (F.take 0) k i).length (cellsP (butT (F.take 0) k i))) := Lib.hid (litR u1 u0.heap.size G1.out.size)
  have G2 : Hid (u0.grownBy (u1.alloc (.cells #[] 35)) none) := Lib.hid (ga _ G1.out)
  obtain ⟨i0, hi0, hi1, hi2, hi3⟩ := thingR_info
  have I0 := Lib.hid hi0
  have I1 := Lib.hid hi1
  have I2 := Lib.hid hi2
  have I3 := Lib.hid hi3
  clear hi0 hi1 hi2 hi3 b0 b1 b2 b3 b4 b5 r0 r1 r2 r3 f0 f1 f2 f3 f4 G1
  go_wp2_with fail
  generalize u1.alloc (.cells #[] 35) = u2 at *
  go_loopw [6, 7] (fun vo it wr => ∃ m : Nat, m ≤ F.length ∧ it = .int .i64 m ∧ Hid (wr.ownsRow u0.heap.size 35 2 vo (butT (F.take m) k i).length (cellsP (butT (F.take m) k i))) ∧ Hid (u0.grownBy wr none)) (fun _ it _ => F.length - (intOf it).toNat)
  case atStart => exact ⟨0, Nat.zero_le _, rfl, hR0, G2⟩
  case round =>
    clear hR0 G2
    obtain ⟨m, hm, rfl, HR, HG⟩ := hrel
    obtain ⟨⟨a0, a1, a2, a3, a4, a5⟩, _, _⟩ := HC.out _ HG.out
    by_cases hlt : m < F.length
    · obtain ⟨g, rfl, y0, y1, _, hg⟩ := own_pair (HO.out wr HG.out) hlt
      have qm : (m : Int) < (F.length : Int) := by omega
      have htk : Hid (F.take (m + 1) = F.take m ++ [F[m]]) := Lib.hid (by rw [List.take_succ_eq_append_getElem hlt])
      generalize F[m] = x at *
      obtain ⟨xk, xi⟩ := x
      dsimp only at y0 y1
      obtain ⟨so, co, rfl, _, _⟩ := own_formP HR.out
      have hbl : (butT (F.take m) k i).length ≤ 100000 := by
        have h1 : (butT (F.take m) k i).length ≤ (F.take m).length := List.length_filter_le _ _
        have h2 : (F.take m).length ≤ F.length := by rw [List.length_take]; omega
        omega
      by_cases he : xk = k ∧ xi = i
      · obtain ⟨rfl, rfl⟩ := he
        have eqf : ∀ v : World, (binOp .neq 35 (.agg #[.int .i64 xk, .int .i64 xi]) (.agg #[.int .i64 xk, .int .i64 xi])).run Try.prog v = .ok (.bool false) v := fun v => by rw [neq_thingR]; simp
        have e1 : butT (F.take (m + 1)) xk xi = butT (F.take m) xk xi := by rw [htk.out]; simp [butT, List.filter_append]
        have E1 := Lib.hid e1
        clear e1
        go_wp2_with fail
        go_quiet (fail)
        go_wp2
        go_roundw
        case rel => exact ⟨m + 1, hlt, by go_num, by rw [E1.out]; exact Lib.hid (own_keepP HR.out (gdN _ (World.grownBy.refl _ _))), Lib.hid (gdN _ HG.out)⟩
        case measure => simp [intOf]; omega
      · have eqf : ∀ v : World, (binOp .neq 35 (.agg #[.int .i64 xk, .int .i64 xi]) (.agg #[.int .i64 k, .int .i64 i])).run Try.prog v = .ok (.bool true) v := fun v => by
          rw [neq_thingR]
          by_cases h1 : xk = k
          · have h2 : xi ≠ i := fun h => he ⟨h1, h⟩
            simp [h2]
          · simp [h1]
        have e1 : butT (F.take (m + 1)) k i = butT (F.take m) k i ++ [(xk, xi)] := by
          rw [htk.out]
          have : (xk, xi) ≠ (k, i) := fun e => by injection e with h1 h2; exact he ⟨h1, h2⟩
          simp [butT, List.filter_append, this]
        have E1 := Lib.hid e1
        clear e1 he
        go_wp2_with fail
        go_quiet (fail)
        have kq : wr.grownBy (wr.drewN nq) none := gdN _ (World.grownBy.refl _ _)
        have HG2 := Lib.hid (HG.out.trans kq)
        have HR2 := Lib.hid (own_keepP HR.out kq)
        replace y0 := kq.cell y0 (by simp)
        replace y1 := kq.cell y1 (by simp)
        replace a3 := kq.cell a3 (by simp)
        clear kq HG HR a0 a1 a2 a4 a5
        generalize wr.drewN nq = wq at *
        have ka := World.grownBy_alloc wq (.cells #[.int .i64 xk, .int .i64 xi] 35) none
        have HG3 := Lib.hid (HG2.out.trans ka)
        have HR3 := Lib.hid (own_keepP HR2.out ka)
        have SR := Lib.hid (src_P wq xk xi 35)
        clear ka HG2 HR2
        go_wp2_with (
          at_builtin
          refine wpList_append_src _ rfl _ _ 28 rfl u0.heap.size 35 i0 (.agg #[.int .i64 0, .int .i64 0]) 2 16 Try.underlying28 I0.out I1.out I2.out I3.out rfl (by decide) _ _ _ rfl HR3.out _ 1 _ rfl SR.out (by unfold maxLen; omega) (by omega) HG3.out.size ?_
          intro vi' w6 hown' hgrow hnil hat
          rw [cellsP_add, ← E1.out] at hown'
          have HR6 : Hid (w6.ownsRow u0.heap.size 35 2 vi' (butT (F.take (m + 1)) k i).length (cellsP (butT (F.take (m + 1)) k i))) := Lib.hid (by rw [show (butT (F.take (m + 1)) k i).length = (butT (F.take m) k i).length + 1 by rw [E1.out]; simp]; exact hown')
          have HG6 : Hid (u0.grownBy w6 none) := Lib.hid (grown_row HG3.out HR3.out (Nat.le_refl _) hgrow)
          clear hown' hgrow hnil hat HG3 HR3 SR y0 y1 a3)
        go_roundw
        case rel => exact ⟨m + 1, hlt, by go_num, HR6, HG6⟩
        case measure => simp [intOf]; omega
    · obtain rfl : m = F.length := by omega
      have qm : ¬ (F.length : Int) < (F.length : Int) := by omega
      rw [List.take_length] at HR
      obtain ⟨so, co, rfl, _, _⟩ := own_formP HR.out
      obtain ⟨⟨a0', a1', a2', a3', c4, c5⟩, ⟨r0, r1, r2, r3⟩, f0, f1, f2, f3, f4⟩ := HC.out _ HG.out
      have GW := Lib.hid (K0.out.trans HG.out)
      have hbl : (butT F k i).length ≤ 100000 := by
        have h1 : (butT F k i).length ≤ F.length := List.length_filter_le _ _
        omega
      generalize hL : (butT F k i).length = L at *
      have far : ∀ (b o : Nat), b ≠ w.heap.size → (wr.setCell ⟨w.heap.size, 3, none⟩ (.slice so L co)).cell? ⟨b, o, none⟩ = wr.cell? ⟨b, o, none⟩ := fun b o hb => World.cell?_setCell_far _ ⟨w.heap.size, 3, none⟩ ⟨b, o, none⟩ _ (by show w.heap.size ≠ b; omega)
      have oth : ∀ o, o ≠ 3 → (wr.setCell ⟨w.heap.size, 3, none⟩ (.slice so L co)).cell? ⟨w.heap.size, o, none⟩ = wr.cell? ⟨w.heap.size, o, none⟩ := fun o ho => World.cell?_setCell_other _ ⟨w.heap.size, 3, none⟩ ⟨w.heap.size, o, none⟩ _ (by simp; try omega)
      have p3 : (wr.setCell ⟨w.heap.size, 3, none⟩ (.slice so L co)).cell? ⟨w.heap.size, 3, none⟩ = some (.slice so L co) := World.cell?_setCell_same _ _ _ a3'
      have p0 := (oth 0 (by decide)).trans a0'
      have p1 := (oth 1 (by decide)).trans a1'
      have p2 := (oth 2 (by decide)).trans a2'
      have s0 := (far (w.heap.size + 2) 0 (by omega)).trans r0
      have s1 := (far (w.heap.size + 2) 1 (by omega)).trans r1
      have s2 := (far (w.heap.size + 2) 2 (by omega)).trans r2
      have s3 := (far (w.heap.size + 2) 3 (by omega)).trans r3
      have ff : ∀ o, (wr.setCell ⟨w.heap.size, 3, none⟩ (.slice so L co)).frozen? ⟨w.heap.size + 2, o, none⟩ = wr.frozen? ⟨w.heap.size + 2, o, none⟩ := fun o => World.frozen?_setCell ..
      have g0 := (ff 0).trans f0
      have g1 := (ff 1).trans f1
      have g2 := (ff 2).trans f2
      have g3 := (ff 3).trans f3
      have GV : Hid (w.grownBy (wr.setCell ⟨w.heap.size, 3, none⟩ (.slice so L co)) none) := Lib.hid (grown_above GW.out (Nat.le_refl _) 3 _)
      have hO3 : Hid ((wr.setCell ⟨w.heap.size, 3, none⟩ (.slice so L co)).ownsRow w.heap.size 35 2 (.slice so L co) L (cellsP (butT F k i))) := Lib.hid (own_mono (own_only2P HR.out (Only.set (lo := w.heap.size) (hi := w.heap.size + 1) wr ⟨w.heap.size, 3, none⟩ _ (Nat.le_refl _) (Nat.lt_succ_self _)) (by have := hus.out; omega)) (by have := hus.out; omega))
      have hne : Hid (∀ g, (Value.slice so L co).ownBlock = some g → g ≠ w.heap.size + 2) := Lib.hid (fun g hg => by have := (HR.out.lt g hg).1; have := hus.out; omega)
      clear far oth ff a0 a1 a2 a3 a4 a5 a0' a1' a2' c4 c5 f0 f1 f2 f3 r0 r1 r2 r3 GW HC HO HR
      go_wp2
      obtain ⟨x0, x1, x2, x3⟩ := set4 (.int .i64 T) (.int .i64 D) (.int .i64 M) (.slice so L co) s0 s1 s2 s3
      refine bodyPost_ret (v := .tuple #[.agg #[.int .i64 T, .int .i64 D, .int .i64 M, .slice so L co], .bool true]) (by simp [results, Try.results10, go_sem, x0, x1, x2, x3]) rfl ⟨⟨_, rfl, ?_⟩, grown_above (grown_above (grown_above (grown_above GV.out (by omega) 0 _) (by omega) 1 _) (by omega) 2 _) (by omega) 3 _⟩
      have e : ∀ (z : World) (o : Nat) (u : Value), z.ownsRow w.heap.size 35 2 (.slice so L co) L (cellsP (butT F k i)) → (∀ g, (Value.slice so L co).ownBlock = some g → g ≠ w.heap.size + 2) → (z.setCell ⟨w.heap.size + 2, o, none⟩ u).ownsRow w.heap.size 35 2 (.slice so L co) L (cellsP (butT F k i)) := fun z o u hz hg => own_blkP hz fun g hb => Below.heap_setCell z ⟨w.heap.size + 2, o, none⟩ u g (by show g ≠ w.heap.size + 2; exact hg g hb)
      exact e _ _ _ (e _ _ _ (e _ _ _ (e _ _ _ hO3.out hne.out) hne.out) hne.out) hne.out

end
end Go.Proofs.Ytmmpnfkfieikcaa
