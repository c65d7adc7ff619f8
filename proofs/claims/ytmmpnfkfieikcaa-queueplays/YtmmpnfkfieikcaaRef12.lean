/-
  The document's answers for queue (nightjarref12): Is, Has, Held.
-/
import Derived.Test.YtmmpnfkfieikcaaQueueRow
import Derived.Deep.Cut
namespace Go.Proofs.Ytmmpnfkfieikcaa
open Go.RowKit Go.Lib
set_option maxRecDepth 100000
set_option linter.unusedVariables false

theorem own_pair {w : World} {B n cap : Nat} {e : TypeId} {sa : Option Addr} {F : List (Int × Int)} (h : w.ownsRow B e 2 (.slice sa n cap) F.length (cellsP F)) {m : Nat} (hm : m < F.length) : ∃ g, sa = some ⟨g, 0, none⟩ ∧ w.cell? ⟨g, m * 2, none⟩ = some (.int .i64 F[m].1) ∧ w.cell? ⟨g, m * 2 + 1, none⟩ = some (.int .i64 F[m].2) ∧ B ≤ g ∧ g < w.heap.size := by
  obtain ⟨sa', cap', hsl, hno, hso⟩ := own_formP h
  injection hsl with h1 h2 h3
  cases e : (Value.slice sa n cap).ownBlock with
  | none => have := hno e; omega
  | some g =>
    have hat := cellsP_at F m F[m] (List.getElem?_eq_getElem hm)
    exact ⟨g, h1.trans (hso g e), own_cellP h hat.1 e, own_cellP h hat.2 e, (h.lt g e).1, (h.lt g e).2⟩
theorem eql_thingR (a b c d : Int) (w : World) : (binOp .eql 35 (.agg #[.int .i64 a, .int .i64 b]) (.agg #[.int .i64 c, .int .i64 d])).run Try.prog w = .ok (.bool (a == c && b == d)) w := by
  by_cases h1 : a = c <;> by_cases h2 : b = d <;> simp [go_sem, Try.underlying35, Try.underlying3, h1, h2]
theorem neq_thingR (a b c d : Int) (w : World) : (binOp .neq 35 (.agg #[.int .i64 a, .int .i64 b]) (.agg #[.int .i64 c, .int .i64 d])).run Try.prog w = .ok (.bool (!(a == c && b == d))) w := by
  by_cases h1 : a = c <;> by_cases h2 : b = d <;> simp [go_sem, Try.underlying35, Try.underlying3, h1, h2]

/-- How many are devices. -/
def heldF (F : List (Int × Int)) : Nat := (F.filter fun x => x.1 == 2).length
section
variable {w w' : World} {B : Nat} {v : Value} {F : List (Int × Int)}
set_option maxHeartbeats 4000000 in
theorem ref_has (T D M k i : Int) (h : w.ownsRow B 35 2 v F.length (cellsP F)) (hF : F.length ≤ 100000) :
    Calls Try.prog 22 #[.agg #[.int .i64 T, .int .i64 D, .int .i64 M, v], .agg #[.int .i64 k, .int .i64 i]] w fun e w' => e = .returned (.bool (decide ((k, i) ∈ F))) ∧ w.grownBy w' none := by
  obtain ⟨sa, cap, rfl, _, _⟩ := own_formP h
  have HO := Lib.hid h
  clear h
  have ka := World.grownBy_alloc w (.cells #[.int .i64 T, .int .i64 D, .int .i64 M, .slice sa F.length cap] 30) none
  have kb := World.grownBy_alloc (w.alloc (.cells #[.int .i64 T, .int .i64 D, .int .i64 M, .slice sa F.length cap] 30)) (.cells #[.int .i64 k, .int .i64 i] 35) none
  obtain ⟨⟨b0, b1⟩, _⟩ := box2 (w.alloc (.cells #[.int .i64 T, .int .i64 D, .int .i64 M, .slice sa F.length cap] 30)) (.int .i64 k) (.int .i64 i) 35 0
  have a3 : (w.alloc (.cells #[.int .i64 T, .int .i64 D, .int .i64 M, .slice sa F.length cap] 30)).cell? ⟨w.heap.size, 3, none⟩ = some (.slice sa F.length cap) := World.cell?_alloc_at _ _ _ 3 rfl
  replace a3 := kb.cell a3 (by simp)
  rw [World.size_alloc] at b0 b1
  have hK : Hid (w.grownBy ((w.alloc (.cells #[.int .i64 T, .int .i64 D, .int .i64 M, .slice sa F.length cap] 30)).alloc (.cells #[.int .i64 k, .int .i64 i] 35)) none) := Lib.hid (ka.trans kb)
  have HCELL : Hid (∀ wr : World, ((w.alloc (.cells #[.int .i64 T, .int .i64 D, .int .i64 M, .slice sa F.length cap] 30)).alloc (.cells #[.int .i64 k, .int .i64 i] 35)).grownBy wr none → wr.cell? ⟨w.heap.size, 3, none⟩ = some (.slice sa F.length cap) ∧ wr.cell? ⟨w.heap.size + 1, 0, none⟩ = some (.int .i64 k) ∧ wr.cell? ⟨w.heap.size + 1, 1, none⟩ = some (.int .i64 i)) := Lib.hid fun wr kk => ⟨kk.cell a3 (by simp), kk.cell b0 (by simp), kk.cell b1 (by simp)⟩
  clear ka kb a3 b0 b1
  go_enter Try.func22, Try.ntmps22
  go_wp2_with fail
  have hx0 := World.grownBy.refl ((w.alloc (.cells #[.int .i64 T, .int .i64 D, .int .i64 M, .slice sa F.length cap] 30)).alloc (.cells #[.int .i64 k, .int .i64 i] 35)) none
  generalize (w.alloc (.cells #[.int .i64 T, .int .i64 D, .int .i64 M, .slice sa F.length cap] 30)).alloc (.cells #[.int .i64 k, .int .i64 i] 35) = w0 at *
  go_loopw [5] (fun it wr => ∃ m : Nat, m ≤ F.length ∧ it = .int .i64 m ∧ Hid ((k, i) ∉ F.take m) ∧ Hid (w0.grownBy wr none)) (fun it _ => F.length - (intOf it).toNat)
  case atStart => exact ⟨0, Nat.zero_le _, rfl, Lib.hid (by simp), Lib.hid hx0⟩
  case round =>
    obtain ⟨m, hm, rfl, HN, HG⟩ := hrel
    clear hx0
    obtain ⟨c3, c0, c1⟩ := HCELL.out wr HG.out
    by_cases hlt : m < F.length
    · obtain ⟨g, rfl, y0, y1, _, hg⟩ := own_pair (own_keepP HO.out (hK.out.trans HG.out)) hlt
      have qm : (m : Int) < (F.length : Int) := by omega
      have htk : Hid (F.take (m + 1) = F.take m ++ [F[m]]) := Lib.hid (by rw [List.take_succ_eq_append_getElem hlt])
      have hmem : Hid (F[m] ∈ F) := Lib.hid (List.getElem_mem hlt)
      generalize F[m] = x at *
      obtain ⟨xk, xi⟩ := x
      dsimp only at y0 y1
      by_cases he : xk = k ∧ xi = i
      · obtain ⟨rfl, rfl⟩ := he
        have eqf : ∀ v : World, (binOp .eql 35 (.agg #[.int .i64 xk, .int .i64 xi]) (.agg #[.int .i64 xk, .int .i64 xi])).run Try.prog v = .ok (.bool true) v := fun v => by rw [eql_thingR]; simp
        go_wp2_with fail
        go_quiet (fail)
        go_wp2
        go_ret
        exact ⟨by simp [hmem.out], gdN _ (hK.out.trans HG.out)⟩
      · have eqf : ∀ v : World, (binOp .eql 35 (.agg #[.int .i64 xk, .int .i64 xi]) (.agg #[.int .i64 k, .int .i64 i])).run Try.prog v = .ok (.bool false) v := fun v => by
          rw [eql_thingR]
          by_cases h1 : xk = k
          · have h2 : xi ≠ i := fun h => he ⟨h1, h⟩
            simp [h2]
          · simp [h1]
        have HE := Lib.hid he
        clear he
        go_wp2_with fail
        go_quiet (fail)
        go_wp2
        go_roundw
        case rel => exact ⟨m + 1, hlt, by go_num, Lib.hid (by
          rw [htk.out]
          intro hh
          rcases List.mem_append.1 hh with hh | hh
          · exact HN.out hh
          · have hh : (k, i) = (xk, xi) := by simpa using hh
            injection hh with h1 h2
            exact HE.out ⟨h1.symm, h2.symm⟩), Lib.hid (gdN _ HG.out)⟩
        case measure => simp [intOf]; omega
    · obtain rfl : m = F.length := by omega
      have qm : ¬ (F.length : Int) < (F.length : Int) := by omega
      have hn := HN.out
      rw [List.take_length] at hn
      go_wp2
      go_ret
      exact ⟨by simp [hn], hK.out.trans HG.out⟩

set_option maxHeartbeats 4000000 in
theorem ref_held (T D M : Int) (h : w.ownsRow B 35 2 v F.length (cellsP F)) (hF : F.length ≤ 100000) :
    Calls Try.prog 23 #[.agg #[.int .i64 T, .int .i64 D, .int .i64 M, v]] w fun e w' => e = .returned (.int .i64 (heldF F : Nat)) ∧ w.grownBy w' none := by
  obtain ⟨sa, cap, rfl, _, _⟩ := own_formP h
  have HO := Lib.hid h
  clear h
  have ka := World.grownBy_alloc w (.cells #[.int .i64 T, .int .i64 D, .int .i64 M, .slice sa F.length cap] 30) none
  have a3 : (w.alloc (.cells #[.int .i64 T, .int .i64 D, .int .i64 M, .slice sa F.length cap] 30)).cell? ⟨w.heap.size, 3, none⟩ = some (.slice sa F.length cap) := World.cell?_alloc_at _ _ _ 3 rfl
  have hK := Lib.hid ka
  have HCELL : Hid (∀ wr : World, (w.alloc (.cells #[.int .i64 T, .int .i64 D, .int .i64 M, .slice sa F.length cap] 30)).grownBy wr none → wr.cell? ⟨w.heap.size, 3, none⟩ = some (.slice sa F.length cap)) := Lib.hid fun wr kk => kk.cell a3 (by simp)
  clear ka a3
  go_enter Try.func23, Try.ntmps23
  go_wp2_with fail
  have hx0 := World.grownBy.refl (w.alloc (.cells #[.int .i64 T, .int .i64 D, .int .i64 M, .slice sa F.length cap] 30)) none
  generalize w.alloc (.cells #[.int .i64 T, .int .i64 D, .int .i64 M, .slice sa F.length cap] 30) = w0 at *
  go_loopw [3, 4] (fun cn it wr => ∃ m c : Nat, m ≤ F.length ∧ it = .int .i64 m ∧ cn = .int .i64 c ∧ Hid (c = heldF (F.take m)) ∧ c ≤ m ∧ Hid (w0.grownBy wr none)) (fun _ it _ => F.length - (intOf it).toNat)
  case atStart => exact ⟨0, 0, Nat.zero_le _, rfl, rfl, Lib.hid (by simp [heldF]), Nat.le_refl _, Lib.hid hx0⟩
  case round =>
    obtain ⟨m, c, hm, rfl, rfl, HC, hcm, HG⟩ := hrel
    clear hx0
    have c3 := HCELL.out wr HG.out
    by_cases hlt : m < F.length
    · obtain ⟨g, rfl, y0, y1, _, hg⟩ := own_pair (own_keepP HO.out (hK.out.trans HG.out)) hlt
      have qm : (m : Int) < (F.length : Int) := by omega
      have htk : Hid (F.take (m + 1) = F.take m ++ [F[m]]) := Lib.hid (by rw [List.take_succ_eq_append_getElem hlt])
      generalize F[m] = x at *
      obtain ⟨xk, xi⟩ := x
      dsimp only at y0 y1
      by_cases he : xk = 2
      · subst he
        go_wp2
        go_roundw
        case rel => exact ⟨m + 1, c + 1, hlt, by go_num, by go_num, Lib.hid (by rw [htk.out, HC.out]; simp [heldF, List.filter_append]), by omega, HG⟩
        case measure => simp [intOf]; omega
      · have e1 : (xk == 2) = false := by simpa using he
        have e2 : decide (xk = 2) = false := by simpa using he
        have HE := Lib.hid he
        clear he
        go_wp2
        go_roundw
        case rel => exact ⟨m + 1, c, hlt, by go_num, rfl, Lib.hid (by rw [htk.out, HC.out]; have := HE.out; simp [heldF, List.filter_append, this]), by omega, HG⟩
        case measure => simp [intOf]; omega
    · obtain rfl : m = F.length := by omega
      have qm : ¬ (F.length : Int) < (F.length : Int) := by omega
      have hc := HC.out
      rw [List.take_length] at hc
      go_wp2
      go_ret
      subst hc
      exact ⟨rfl, hK.out.trans HG.out⟩
end
end Go.Proofs.Ytmmpnfkfieikcaa
