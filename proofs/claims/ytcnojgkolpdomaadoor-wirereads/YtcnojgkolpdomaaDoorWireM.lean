/-
  What the laws of package wire want beside its contracts: forms of rows, parts of rows of entries, the plain part of WireCuts. (No program is run here.)
-/
import Derived.Test.YtcnojgkolpdomaaDoorAlive15
import Derived.Test.YtcnojgkolpdomaaDoorPlain
namespace Go.Proofs.YtcnojgkolpdomaaDoor
open Go.RowKit Go.Lib
set_option linter.unusedVariables false

theorem ReadsB.form {w : World} {v : Value} {F : List Nat} (h : ReadsB w v F) : ∃ a cap, v = .slice a F.length cap ∧ F.length ≤ cap ∧ cap ≤ maxLen := by
  obtain ⟨a, cap, e, h1, h2, _⟩ := h
  exact ⟨a, cap, e, h1, h2⟩
theorem ReadsB.b {w : World} {v : Value} {F : List Nat} (h : ReadsB w v F) : isB F := by
  obtain ⟨_, _, _, _, _, h, _⟩ := h; exact h
theorem ReadsE.form {w : World} {v : Value} {L : List En} (h : ReadsE w v L) : ∃ a cap, v = .slice a L.length cap ∧ L.length ≤ cap ∧ cap ≤ maxLen := by
  obtain ⟨a, cap, e, h1, h2, _⟩ := h
  exact ⟨a, cap, e, h1, h2⟩
theorem ReadsE.sm {w : World} {v : Value} {L : List En} (h : ReadsE w v L) : ∀ e ∈ L, smC e.call := by
  obtain ⟨_, _, _, _, _, h, _⟩ := h; exact h
/-- The first bytes of a slice, its address as it is. -/
theorem reads_takeA {w : World} {a : Option Addr} {cap n : Nat} {T : List Nat} (h : ReadsB w (.slice a T.length cap) T) (hn : n ≤ T.length) : ReadsB w (.slice a n cap) (T.take n) := by
  obtain ⟨a', cap', e, h1, h2, h3, h4⟩ := h
  injection e with e1 e2 e3
  subst e1 e3
  have hl : (T.take n).length = n := by rw [List.length_take]; omega
  refine ⟨a, cap, by rw [hl], by rw [hl]; omega, h2, isB_take h3 n, fun h0 => ?_⟩
  rw [hl] at h0
  obtain ⟨b, o, rfl, hb, hc⟩ := h4 (by omega)
  refine ⟨b, o, rfl, hb, fun j hj => ?_⟩
  rw [hl] at hj
  rw [hc j (by omega), List.getElem_take]
theorem reads_takeE {w : World} {a : Option Addr} {cap n : Nat} {T : List En} (h : ReadsE w (.slice a T.length cap) T) (hn : n ≤ T.length) : ReadsE w (.slice a n cap) (T.take n) := by
  obtain ⟨a', cap', e, h1, h2, h3, h4⟩ := h
  injection e with e1 e2 e3
  subst e1 e3
  have hl : (T.take n).length = n := by rw [List.length_take]; omega
  refine ⟨a, cap, by rw [hl], by rw [hl]; omega, h2, fun e he => h3 e (List.mem_of_mem_take he), fun h0 => ?_⟩
  rw [hl] at h0
  obtain ⟨b, o, rfl, hb, hc⟩ := h4 (by omega)
  refine ⟨b, o, rfl, hb, fun j hj i hi => ?_⟩
  rw [hl] at hj
  rw [hc j (by omega) i hi, List.getElem_take]
theorem rdT_ok {F : List Nat} (hB : isB F) : okL ((rd F).take 2048) := fun e he => (rd_props F.length F (Nat.le_refl _) hB).1 e (List.mem_of_mem_take he)
theorem rdT_len (F : List Nat) : ((rd F).take 2048).length ≤ 2048 := by rw [List.length_take]; omega
theorem okL_all {L : List En} (h : okL L) : L.all okE = true := List.all_eq_true.2 (fun e he => (h e he).1)
theorem wrB_rd {L : List En} (h : okL L) (hl : L.length ≤ 2048) : (rd (wrB L)).take 2048 = L := by
  rw [wrB, rd_write L h, List.take_of_length_le hl]
theorem take_len_le : ∀ (L : List En) (n : Nat), ((L.take n).flatMap ew).length ≤ (L.flatMap ew).length
  | [], n => by simp
  | e :: L, 0 => by simp
  | e :: L, n + 1 => by
    have := take_len_le L n
    simp only [List.take_succ_cons, List.flatMap_cons, List.length_append]
    omega
theorem rdT_size {F : List Nat} (hB : isB F) : (wrB ((rd F).take 2048)).length ≤ F.length :=
  Nat.le_trans (take_len_le _ _) (rd_props F.length F (Nat.le_refl _) hB).2.1
theorem rdT_cut {F : List Nat} (hB : isB F) (k : Nat) : ((rd (F.take k)).take 2048).length ≤ ((rd F).take 2048).length ∧ ((rd F).take 2048).take ((rd (F.take k)).take 2048).length = (rd (F.take k)).take 2048 := by
  obtain ⟨r, hr⟩ := (rd_props F.length F (Nat.le_refl _) hB).2.2 k
  rw [hr]
  generalize rd (F.take k) = P
  refine ⟨by simp only [List.length_take, List.length_append]; omega, ?_⟩
  rw [List.take_take, List.length_take, Nat.min_eq_left (by omega)]
  by_cases h : P.length ≤ 2048
  · rw [Nat.min_eq_right h, List.take_left, List.take_of_length_le h]
  · rw [Nat.min_eq_left (by omega), List.take_append_of_le_length (by omega)]
theorem ERow.reads' {w : World} {B : Nat} {v : Value} {L : List En} (h : ERow w B v L) (hb : okL L) : ReadsE w v L := h.reads (fun e he => (hb e he).2)
theorem cut_mask (c : Int) : ∃ y : Nat, bits .and .i64 c 65535 = (y : Int) ∧ y < 65536 := by
  have h := i64_mask 16 (by decide) c
  have h2 : bits .and .i64 c 65535 = c % 65536 := by simpa using h
  exact ⟨(c % 65536).toNat, by rw [h2]; omega, by omega⟩
end Go.Proofs.YtcnojgkolpdomaaDoor
