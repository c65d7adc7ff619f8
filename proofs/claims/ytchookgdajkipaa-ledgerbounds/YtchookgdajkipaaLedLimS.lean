/-
  Contracts of package ledger, over this seat's translation, for a book of texts: Limit of a key that is behind all others; a new book.
-/
import Derived.Test.YtchookgdajkipaaLedUseS
namespace Go.Proofs.Ytchookgdajkipaa.LS
open Go.RowKit Go.Lib
set_option maxRecDepth 100000

section
variable {w : World} {B bb n : Nat} {v : Value} {K : Nat → ByteArray} {M U : Nat → Int}

theorem lcells_end (key : ByteArray) (x : Int) : lcells (insK K n key) (insK M n x) (insK U n 0) (n + 1) = lcells K M U n ++ [kv key, .int .i64 x, .int .i64 0] := by
  simp only [lcells]
  rw [lcells_congr (K' := K) (M' := M) (U' := U) (fun j hj => by simp [insK, hj])]
  simp [insK]

set_option maxHeartbeats 4000000 in
theorem limit_end (key : ByteArray) (x : Int) (H : Bk w B bb v n K M U) (hp : ∀ p, p < n → klt (K p) key = true) (hn : n ≤ 999998) (hx : x < 9223372036854775808) :
    Calls Try.prog 9 #[.pointer (some ⟨bb, 0, none⟩), kv key, .int .i64 x] w fun e w' => (∃ y, e = .returned y) ∧ Off bb v.ownBlock w w' ∧ ∃ v', (v'.ownBlock = v.ownBlock ∨ ∃ r, v'.ownBlock = some r ∧ w.heap.size ≤ r) ∧ Bk w' B bb v' (n + 1) (insK K n key) (insK M n (max x 0)) (insK U n 0) := by
  have C : Hid (Calls Try.prog 27 #[.pointer (some ⟨bb, 0, none⟩), kv key] w fun e w' => e = .returned (.tuple #[.int .i64 n, .bool false]) ∧ w.grownBy w' none) := Lib.hid ((find_no key H (fun p h => by
      cases hq : keq (K p) key with
      | false => rfl
      | true => have := (keq_same hq).1; rw [hp p h] at this; cases this)).mono fun e w' ⟨i, he, hg, hs⟩ => by
    have : i = n := by
      have := hs.le
      by_cases h : i < n
      · have h1 := hs.hi i (Nat.le_refl _) h
        rw [hp i h] at h1
        cases h1
      · omega
    subst this
    exact ⟨he, hg⟩)
  have HP := Lib.hid hp
  obtain ⟨a, cap, rfl⟩ := H.form
  have hz : bb < w.heap.size := H.lb.2
  have hBz : B ≤ w.heap.size := by have := H.lb.1; omega
  have HH := Lib.hid H
  clear H hp
  have HK : Hid (kv key = kv key) := Lib.hid rfl
  go_enter Try.func9, Try.ntmps9
  go_wp2_with fail
  refine C.out.mono ?_
  rintro e w1 ⟨rfl, k1⟩
  have H1 := HH.out.kept k1
  have c0 := H1.c0
  have ka := World.grownBy_alloc w1 (.cells #[kv key, .int .i64 0, .int .i64 0] 59) none
  have H2 := H1.kept ka
  have hsz : (w1.alloc (.cells #[kv key, .int .i64 0, .int .i64 0] 59)).heap.size = w1.heap.size + 1 := by simp
  have CI := Lib.hid (insert_end key w1.heap.size a cap (by omega) (Nat.le_trans (Nat.le_trans hBz k1.size) ka.size) H2.own ⟨World.cell?_alloc_new .., World.cell?_alloc_new .., World.cell?_alloc_new ..⟩)
  have K2 := Lib.hid (k1.trans ka)
  have HX := Lib.hid H2
  have hw1 := k1.size
  clear H1 H2 ka C
  unfold kv at *
  go_wp2_with fail
  generalize w1.alloc (.cells #[_, .int .i64 0, .int .i64 0] 59) = w2 at *
  refine CI.out.mono ?_
  rintro e w3 ⟨v', rfl, g3, o3, at3⟩
  have hcb : w3.cell? ⟨bb, 0, none⟩ = some (.slice a n cap) := (g3.cell_far ⟨bb, 0, none⟩ HX.out.lb.2 HX.out.nb).trans HX.out.c0
  have hfb : w3.frozen? ⟨bb, 0, none⟩ = false := (g3.frozen_far ⟨bb, 0, none⟩ HX.out.lb.2 HX.out.nb).trans HX.out.f0
  have hnb : some bb ≠ v'.ownBlock := fun e => by
    rcases at3 with h | h
    · exact HX.out.nb (by rw [e, h])
    · rw [h] at e
      have : bb = w2.heap.size := by simpa using e
      have := HX.out.lb.2
      omega
  have N : Bk (w3.setCell ⟨bb, 0, none⟩ v') B bb v' (n + 1) (insK K n key) (insK M n 0) (insK U n 0) := by
    refine ⟨World.cell?_setCell_same _ _ _ hcb, (World.frozen?_setCell ..).trans hfb, ?_, fun i j hij hj => ?_, fun j hj => ?_, hnb, ⟨HX.out.lb.1, by have := g3.size; have := HX.out.lb.2; simp [World.setCell]; omega⟩, by omega⟩
    · rw [lcells_end]
      exact o3.kept (grown_set _ _ _ _) (Or.inr (Ne.symm hnb))
    · by_cases e : j = n
      · subst e
        have h1 : i < j := hij
        simp [insK, h1]
        exact HP.out i h1
      · have h1 : j < n := by omega
        have h2 : i < n := by omega
        simp [insK, h1, h2]
        exact HX.out.srt i j hij h1
    · by_cases e : j = n
      · simp [insK, e]
      · have h1 : j < n := by omega
        simp [insK, h1]
        exact HX.out.bd j h1
  obtain ⟨r, cap', rfl, hne, hBr, hrl, hc⟩ := N.row (by omega)
  obtain ⟨d1, d2, d3, hf⟩ := hc n (by omega)
  have e0 := N.c0
  have f3 := hf (n * 3 + 1)
  have q1 : (n : Int) < ((n + 1 : Nat) : Int) := by omega
  have NN := Lib.hid N
  have hr : w.heap.size ≤ r ∨ (Value.slice a n cap).ownBlock = some r := by
    rcases at3 with h | h
    · exact Or.inr (by rw [← h]; rfl)
    · refine Or.inl ?_
      have : r = w2.heap.size := by simpa [Value.ownBlock] using h
      have := K2.out.size
      omega
  have OF : Hid (Off bb (Value.slice a n cap).ownBlock w (w3.setCell ⟨bb, 0, none⟩ (.slice (some ⟨r, 0, none⟩) (n + 1) cap'))) := Lib.hid (((Off.of_none K2.out).trans ⟨g3.os, g3.tape, g3.output, g3.size, fun k hk _ h2 => g3.block k hk h2⟩).trans (Off.set _ _ _))
  have HAT : Hid ((Value.slice (some ⟨r, 0, none⟩) (n + 1) cap').ownBlock = (Value.slice a n cap).ownBlock ∨ ∃ r', (Value.slice (some ⟨r, 0, none⟩) (n + 1) cap').ownBlock = some r' ∧ w.heap.size ≤ r') := Lib.hid (by
    rcases hr with h | h
    · exact Or.inr ⟨r, rfl, h⟩
    · exact Or.inl h.symm)
  have HR := Lib.hid hr
  clear N hc hf o3 at3 g3 hnb hr CI
  have HSM : Hid (∀ y : Int, 0 ≤ y → y < 9223372036854775808 → Bk ((w3.setCell ⟨bb, 0, none⟩ (.slice (some ⟨r, 0, none⟩) (n + 1) cap')).setCell ⟨r, n * 3 + 1, none⟩ (.int .i64 y)) B bb (.slice (some ⟨r, 0, none⟩) (n + 1) cap') (n + 1) (insK K n key) (insK M n y) (insK U n 0)) := Lib.hid fun y h1 h2 => by
    have := NN.out.setM n (by omega) y ⟨h1, h2⟩
    have e : (fun j => if j = n then y else insK M n 0 j) = fun j => if j = n then y else insK M n y j := funext fun j => by
      by_cases h : j = n
      · simp [h]
      · simp [insK, h]
    have e2 : (fun j => if j = n then y else insK M n y j) = insK M n y := funext fun j => by
      by_cases h : j = n
      · simp [insK, h]
      · simp [h]
    rw [e, e2] at this
    exact this
  have hb0 : w3.frozen? ⟨bb, 0, none⟩ = false := hfb
  by_cases h0 : x < 0
  · have EM : Hid (max x 0 = 0) := Lib.hid (by omega)
    go_wp2
    go_end0
    rw [EM.out]
    exact ⟨⟨_, rfl⟩, OF.out.newRow HR.out _ _, _, HAT.out, HSM.out 0 (by omega) (by omega)⟩
  · have EM : Hid (max x 0 = x) := Lib.hid (by omega)
    go_wp2
    go_end0
    rw [EM.out]
    exact ⟨⟨_, rfl⟩, OF.out.newRow HR.out _ _, _, HAT.out, HSM.out x (by omega) hx⟩

/-- A book that knows nothing. -/
theorem bk_new (w : World) (B : Nat) (hB : B ≤ w.heap.size) : Bk (w.alloc (.cells #[.slice none 0 0] 26)) B w.heap.size (.slice none 0 0) 0 (fun _ => ByteArray.empty) (fun _ => 0) (fun _ => 0) :=
  ⟨World.cell?_alloc_new .., by simp, World.ownsRow_nil _ _ _ _, fun i j _ h => absurd h (by omega), fun j h => absurd h (by omega), (by intro h; cases h), ⟨hB, by simp⟩, by omega⟩
end
end Go.Proofs.Ytchookgdajkipaa.LS
