/-
  Contracts of package chain, over this seat's translation: All and New.
-/
import Derived.Test.YtkkodhjolgcokaaDoorChain3
import Derived.Test.YtkkodhjolgcokaaDoorInts
namespace Go.Proofs.YtkkodhjolgcokaaDoor
open Go.RowKit Go.Lib
set_option maxRecDepth 100000

/-- What stands at the j-th place behind a list's knot: a number, or the knot again. -/
def ringAt (n i : Nat) (l : List Nat) (j : Nat) : Nat := if h : j < l.length then l[j] else n + i
theorem ringAt_in (n i : Nat) (l : List Nat) (j : Nat) (h : j < l.length) : ringAt n i l j = l[j] := by simp [ringAt, h]
theorem ringAt_end (n i : Nat) (l : List Nat) : ringAt n i l l.length = n + i := by simp [ringAt]
theorem ringAt_get (n i : Nat) (l : List Nat) (j : Nat) (h : j ≤ l.length) : ((n + i) :: l ++ [n + i])[j + 1]'(by simp; omega) = ringAt n i l j := by
  by_cases hj : j < l.length
  · rw [ringAt_in _ _ _ _ hj]; simp [hj]
  · have : j = l.length := by omega
    subst this
    rw [ringAt_end]; simp

section
variable {w : World} {lo n m : Nat} {L : Nat → List Nat}

theorem all_out (i : Int) (H : LinksAt w lo n m L) (hi : i < 0 ∨ (m : Int) ≤ i) :
    Calls Tryd.prog 47 #[.pointer (some ⟨lo + 4, 0, none⟩), .int .i64 i] w fun e w' => e = .returned (.slice none 0 0) ∧ w = w' := by
  obtain ⟨bn, bp, bo, bl, N, P, O, H1, H2⟩ := H
  have c := isList_any i H1
  rw [isIn_no hi] at c
  have C := Lib.hid c
  clear H1 H2 c hi
  go_enter Tryd.func47, Tryd.ntmps47
  go_wp2_with fail
  refine (C.out).mono ?_
  rintro e w' ⟨rfl, rfl⟩
  go_wp2
  go_ret
  exact ⟨rfl, rfl⟩

set_option maxHeartbeats 2000000 in
theorem all_in (i : Nat) (H : LinksAt w lo n m L) (hi : i < m) :
    Calls Tryd.prog 47 #[.pointer (some ⟨lo + 4, 0, none⟩), .int .i64 i] w fun e w' => ∃ r cp, e = .returned (.slice (some ⟨r, 0, none⟩) (L i).length cp) ∧ w.grownBy w' none ∧ RowOf w' w.heap.size r cp (L i) := by
  have hfew := H.few i hi
  obtain ⟨bn, bp, bo, bl, N, P, O, H1, H2⟩ := H
  have c := isList_any i H1
  rw [isIn_yes hi] at c
  have C := Lib.hid c
  have hring := H2.ring i hi
  have hN0 : N (n + i) = ringAt n i (L i) 0 := by
    have h := (linked_at 0 (by simp) hring).1
    rw [ringAt_get n i (L i) 0 (by omega)] at h
    exact h
  have hNj : Hid (∀ j, j < (L i).length → N (ringAt n i (L i) j) = ringAt n i (L i) (j + 1)) := Lib.hid fun j hj => by
    have h := (linked_at (j + 1) (by simp; omega) hring).1
    rw [ringAt_get n i (L i) (j + 1) (by omega), ringAt_get n i (L i) j (by omega)] at h
    exact h
  have hlt : Hid (∀ j, j < (L i).length → ringAt n i (L i) j < n) := Lib.hid fun j hj => by
    rw [ringAt_in _ _ _ _ hj]; exact H2.bound i hi _ (List.getElem_mem hj)
  have hend := Lib.hid (ringAt_end n i (L i))
  have htk : Hid (∀ j, j < (L i).length → (L i).take (j + 1) = (L i).take j ++ [ringAt n i (L i) j]) := Lib.hid fun j hj => by
    rw [ringAt_in _ _ _ _ hj, List.take_succ_eq_append_getElem hj]
  have HCELL : Hid (∀ wr : World, w.grownBy wr none → wr.cell? ⟨lo + 4, 0, none⟩ = some (.slice (some ⟨bn, 0, none⟩) (n + m) (n + m)) ∧ ∀ j, j < n + m → wr.cell? ⟨bn, j, none⟩ = some (.int .i64 (N j : Nat))) := Lib.hid fun wr hg =>
    have K := H1.kept (Only.of_none (lo := 0) (hi := 0) hg) (Or.inr (by omega))
    ⟨K.c0, K.cn⟩
  have h3 := H1.c3
  have h4 := H1.cl i hi
  have hn4 := H1.hn
  have hm4 := H1.hm
  have hmk : ∀ W : World, (Instr.makeSlice 30 (.int .i64 0) (.int .i64 ((L i).length : Nat))).run Tryd.prog W = _ := fun W => make_ints 0 (L i).length (by omega) (by omega) W
  have k0 := World.grownBy_alloc w (.cells (madeCells #[.int .i64 0] (L i).length) 3) none
  have hR0 := make_room w w.heap.size (L i).length (Nat.le_refl _) (by omega)
  have KN := Lib.hid (knot_any i (H1.kept (Only.of_none (lo := 0) (hi := 0) k0) (Or.inr (by omega))) hi)
  obtain ⟨d0, d1⟩ := HCELL.out _ k0
  have d2 := d1 (n + i) (by omega)
  rw [hN0] at d2
  clear d1 H1 H2 c hring hN0
  obtain ⟨i0, hi0, hz0, hz1, hz2⟩ := int_info
  have I0 := Lib.hid hi0
  have I1 := Lib.hid hz0
  have I2 := Lib.hid hz1
  have I3 := Lib.hid hz2
  clear hi0 hz0 hz1 hz2
  go_enter Tryd.func47, Tryd.ntmps47
  go_wp2_with fail
  refine (C.out).mono ?_
  rintro e w' ⟨rfl, rfl⟩
  go_wp2_with fail
  refine (KN.out).mono ?_
  rintro e w' ⟨rfl, rfl⟩
  have hx : ((n + i : Nat) : Int) < ((n + m : Nat) : Int) := by omega
  obtain ⟨B, hB⟩ : ∃ B, B = w.heap.size := ⟨_, rfl⟩
  have HB := Lib.hid hB
  rw [← hB] at hR0 ⊢
  have hle : B ≤ (w.alloc (.cells (madeCells #[.int .i64 0] (L i).length) 3)).heap.size := by rw [hB]; exact k0.size
  go_wp2
  clear h3 h4 hB hmk
  generalize w.alloc (.cells (madeCells #[.int .i64 0] (L i).length) 3) = w1 at hR0 k0 d0 d2 hle ⊢
  go_loopw [5, 7] (fun av kv wr => ∃ j r cp : Nat, j ≤ (L i).length ∧ kv = .int .i64 (ringAt n i (L i) j : Nat) ∧ av = .slice (some ⟨r, 0, none⟩) j cp ∧ RowOf wr B r cp ((L i).take j) ∧ w.grownBy wr none ∧ B ≤ wr.heap.size)
    (fun av _ _ => (L i).length - (match av with | .slice _ k _ => k | _ => 0))
  case atStart => exact ⟨0, B, (L i).length, Nat.zero_le _, rfl, by rw [HB.out], hR0, k0, hle⟩
  case round =>
    obtain ⟨j, r, cp, hj, rfl, rfl, hown, hG, hBr⟩ := hrel
    clear hR0 k0 d0 d2 hle
    by_cases hlt2 : j < (L i).length
    · have hk := hlt.out j hlt2
      have hnx := hNj.out j hlt2
      have htk2 := htk.out j hlt2
      generalize ringAt n i (L i) j = k at *
      generalize hnk : ringAt n i (L i) (j + 1) = nk at *
      have hne : ((k : Int) != ((n + i : Nat) : Int)) = true := by rw [bne_iff_ne]; omega
      have hlen : ((L i).take j).length = j := by simp; omega
      have hrr := hown.lt
      unfold RowOf at hown
      rw [hlen] at hown
      go_wp2_with (
      at_builtin
      refine wpList_append_own_at _ rfl _ _ 30 rfl B 3 i0 (.int .i64 0) 1 8 Tryd.underlying30 I0.out I1.out I2.out I3.out rfl (by decide) _ _ _ rfl (World.ownsRow.alloc hown _) ⟨wr.heap.size, 0, none⟩ 1 1 [.int .i64 (k : Int)] rfl rfl (cell_one_new _ _ _) (fun x hx => by simp at hx; subst hx; rfl) (by unfold maxLen; omega) (by omega) (by simp; omega) ?_
      intro v' w5 hown' hgrow3 hnil3 hat0
      have hgr : (wr.alloc (.cells #[.int .i64 (k : Int)] 3)).grownBy w5 (some r) := hgrow3
      have hnn : v' ≠ .slice none 0 0 := fun h => absurd (hnil3.1 h).2 (by decide)
      have k4 := World.grownBy_alloc wr (.cells #[.int .i64 (k : Int)] 3) none
      have hat1 : v'.ownBlock = some r ∨ v'.ownBlock = some (wr.alloc (.cells #[.int .i64 (k : Int)] 3)).heap.size := hat0
      clear hgrow3 hnil3 hat0
      have hG5 : w.grownBy w5 none := grow_onC (grow_toC hG k4) hgr (by rw [← HB.out]; omega)
      have hB5 : B ≤ w5.heap.size := Nat.le_trans hBr (Nat.le_trans k4.size hgr.size)
      obtain ⟨r', cp', rfl, hown5⟩ := row_of_owns hown' (F := (L i).take (j + 1)) (by simp; omega) (by rw [htk2, ints_snoc]) hnn
      clear hgr hown' hnn k4 hG hBr hown
      obtain ⟨d0, d1⟩ := HCELL.out _ hG5
      have d2 := d1 k (by omega)
      rw [hnx] at d2
      clear d1
      have hx2 : (k : Int) < ((n + m : Nat) : Int) := by omega
      have hlen2 : ((L i).take (j + 1)).length = j + 1 := by simp; omega
      rw [hlen2]
      )
      go_roundw
      case rel => exact ⟨j + 1, r', cp', by omega, by rw [hnk], rfl, hown5, hG5, hB5⟩
      case measure => simp; omega
    · have he : j = (L i).length := by omega
      subst he
      have hkk := hend.out
      generalize ringAt n i (L i) (L i).length = k at *
      subst hkk
      go_wp2
      go_ret
      rw [List.take_length] at hown
      exact ⟨r, cp, rfl, hG, HB.out ▸ hown⟩
end
end Go.Proofs.YtkkodhjolgcokaaDoor
