/-
  Contracts of package box (things of type poll.Note), over this seat's translation: things, and what it collects them by.
-/
import Derived.Test.YtpnipmjjhiaieaaBox2bN
import Derived.Test.YtpnipmjjhiaieaaAppSrc
import Derived.Maps.Own
import Derived.Maps.OwnSet
namespace Go.Proofs.Ytpnipmjjhiaieaa.BN
open Go.RowKit Go.Lib Go.Conc
set_option maxRecDepth 100000
set_option linter.unusedVariables false

theorem ptr_info : ∃ i : TypeInfo, Try.prog.info? 94 = some i ∧ i.zero = some (.pointer none) ∧ i.size = 1 ∧ i.bytes = 8 := ⟨_, rfl, rfl, rfl, rfl⟩
theorem int_info : ∃ i : TypeInfo, Try.prog.info? 3 = some i ∧ i.zero = some (.int .i64 0) ∧ i.size = 1 ∧ i.bytes = 8 := ⟨_, rfl, rfl, rfl, rfl⟩
section
variable {w w' : World}
theorem own_blk {B n size : Nat} {e : TypeId} {v : Value} {xs : List Value} (h : w.ownsRow B e size v n xs) (k : ∀ g, v.ownBlock = some g → w'.heap[g]? = w.heap[g]?) : w'.ownsRow B e size v n xs := by
  refine ⟨h.1, ?_⟩
  rcases h.2 with hn | ⟨g, cap, cur, hv, hb, hg, rest⟩
  · exact .inl hn
  · refine .inr ⟨g, cap, cur, hv, hb, ?_, rest⟩
    rw [k g (by rw [hv]; rfl)]
    exact hg
theorem own_at {B n size : Nat} {e : TypeId} {v : Value} {xs : List Value} (h : w.ownsRow B e size v n xs) : ∃ sa cp, v = .slice sa n cp ∧ (∀ g, v.ownBlock = some g → B ≤ g ∧ sa = some ⟨g, 0, none⟩ ∧ ∃ cur, w.heap[g]? = some (.cells cur e (0, 0))) ∧ (0 < n → ∃ g, sa = some ⟨g, 0, none⟩ ∧ v.ownBlock = some g) := by
  rcases h.2 with ⟨rfl, rfl⟩ | ⟨g, cap, cur, rfl, hb, hg, rest⟩
  · exact ⟨none, 0, rfl, fun g hg => (by cases hg), fun h => (by omega)⟩
  · exact ⟨_, cap, rfl, fun g' h' => (by cases h'; exact ⟨hb, rfl, cur, hg⟩), fun _ => ⟨g, rfl, rfl⟩⟩
theorem src_one (w : World) (u : Value) (T : TypeId) (hu : u.oneCell' = true) : SrcAt (w.alloc (.cells #[u] T)) 1 (.slice (some ⟨w.heap.size, 0, none⟩) 1 1) 1 [u] := by
  refine Or.inl ⟨_, 1, rfl, rfl, fun j x hx => ?_, fun x hx => by simp at hx; subst hx; exact hu⟩
  cases j with
  | zero =>
    simp at hx
    subst hx
    exact World.cell?_alloc_at _ T _ 0 rfl
  | succ j => simp at hx
theorem blk_setCell (w : World) (b o : Nat) (u : Value) (a : Array Value) (t : TypeId) (h : w.heap[b]? = some (.cells a t (0, 0))) : (w.setCell ⟨b, o, none⟩ u).heap[b]? = some (.cells (a.setIfInBounds o u) t (0, 0)) := by
  have hl := blk_lt h
  simp only [World.setCell]
  rw [Array.getElem?_modify, h]
  simp

set_option maxHeartbeats 2000000 in
theorem things1 (q ab n : Nat) (v : Value) (xs : List Value) (hab : w.heap[ab]? = some (.cells #[v] 92 (0, 0))) (hown : w.ownsRow (ab + 1) 94 1 v n xs) (hn : n ≤ 5000) :
    Calls Try.prog 66 #[ptr q, .pointer (some ⟨ab, 0, none⟩)] w fun e w' => e = .returned (.bool true) ∧ (∃ v', w'.heap[ab]? = some (.cells #[v'] 92 (0, 0)) ∧ w'.ownsRow (ab + 1) 94 1 v' (n + 1) (xs ++ [ptr q])) ∧ Only ab w.heap.size w w' := by
  have hal := blk_lt hab
  have ka := World.grownBy_alloc w (.cells #[ptr q] 94) none
  obtain ⟨sa, cp, rfl, hf, _⟩ := own_at hown
  have c0 := cell_blk hab 0
  simp only [List.getElem?_toArray, List.getElem?_cons_zero] at c0
  obtain ⟨i0, hi0, hi1, hi2, hi3⟩ := ptr_info
  have I0 := Lib.hid hi0
  have I1 := Lib.hid hi1
  have I2 := Lib.hid hi2
  have I3 := Lib.hid hi3
  have OW := Lib.hid (hown.alloc (.cells #[ptr q] 94))
  have HA := Lib.hid hab
  have HF := Lib.hid hf
  have KA := Lib.hid ka
  have SR := Lib.hid (src_one w (ptr q) 94 rfl)
  clear hown hab hi0 hi1 hi2 hi3 hf ka
  unfold ptr at *
  go_enter Try.func66, Try.ntmps66
  go_wp2_with (
    at_builtin
    refine wpList_append_src _ rfl _ _ 92 rfl (ab + 1) 94 i0 (.pointer none) 1 8 Try.underlying92 I0.out I1.out I2.out I3.out rfl (by decide) _ _ _ rfl OW.out _ 1 _ rfl SR.out (by unfold maxLen; omega) (by omega) (by have := KA.out.size; omega) ?_
    intro v' w5 hown' hgrow hnil hat
    have hgr : Hid ((w.alloc (.cells #[.pointer (some ⟨q, 0, none⟩)] 94)).grownBy w5 (Value.slice sa n cp).ownBlock) := Lib.hid hgrow
    clear hgrow hnil hat
    obtain ⟨sa', cp', rfl, _, _⟩ := own_at hown'
    have OW' := Lib.hid hown'
    clear hown'
    have hne : (Value.slice sa n cp).ownBlock ≠ some ab := fun h => by have := (HF.out ab h).1; omega
    have hb5 : w5.heap[ab]? = some (.cells #[.slice sa n cp] 92 (0, 0)) := (hgr.out.block ab (by have := KA.out.size; omega) (fun h => hne h.symm)).trans ((KA.out.block ab hal (by simp)).trans HA.out)
    have HB5 := Lib.hid hb5
    have c5 := cell_blk hb5 0
    have f5 := frozen_blk hb5 0
    simp only [List.getElem?_toArray, List.getElem?_cons_zero] at c5
    clear hb5 hne c0)
  go_wp2
  go_ret
  have h6 := blk_setCell w5 ab 0 (.slice sa' (n + 1) cp') _ _ HB5.out
  refine ⟨rfl, ⟨.slice sa' (n + 1) cp', by simpa using h6, ?_⟩, ?_⟩
  · refine own_blk OW'.out fun g hg => ?_
    have : (ab + 1) ≤ g := by
      obtain ⟨_, _, e, hf, _⟩ := own_at OW'.out
      exact (hf g hg).1
    exact Below.heap_setCell w5 ⟨ab, 0, none⟩ _ g (by show g ≠ ab; omega)
  · refine ⟨?_, ?_, ?_, ?_, fun k hk hr => ?_⟩
    · exact hgr.out.os.trans KA.out.os
    · exact hgr.out.tape.trans KA.out.tape
    · exact hgr.out.output.trans KA.out.output
    · have h1 := hgr.out.size
      have h2 := KA.out.size
      simp only [World.setCell]
      simp
      omega
    · have hka : k < ab := by omega
      refine (Below.heap_setCell w5 ⟨ab, 0, none⟩ _ k (by show k ≠ ab; omega)).trans ?_
      refine (hgr.out.block k (by have := KA.out.size; omega) (fun h => ?_)).trans (KA.out.block k hk (by simp))
      have := (HF.out k h.symm).1
      omega
end
end Go.Proofs.Ytpnipmjjhiaieaa.BN
