/-
  Contracts of package caps, over this seat's translation: Look of bits that are no handle; Need, Revoke.
-/
import Derived.Test.YtbkjdbimkofceaaDoorCapsLook
namespace Go.Proofs.YtbkjdbimkofceaaDoor
open Go.RowKit Go.Lib
set_option maxRecDepth 100000

section
variable {w w' : World} {tb rb ro pb po b g hb n G : Nat} {T : Nat → Pl}

/-- Look, by what At answers. -/
theorem look_core (h p gn r : Nat) (k i : Int) (okv : Bool) (hh : h < 18446744073709551616) (hs : h / 256 % 65536 = p) (hr : r < 256) (hg : gn < 1099511627776)
    (t0 : (w.alloc (.cells #[.int .i64 0, .int .i64 0, .int .i64 0] 33)).cell? ⟨tb, 0, none⟩ = some (.pointer (some ⟨rb, ro, none⟩)))
    (C2 : Calls Tryd.prog 37 #[.pointer (some ⟨rb, ro, none⟩), .int .i64 p] (w.alloc (.cells #[.int .i64 0, .int .i64 0, .int .i64 0] 33)) fun e w' => e = .returned (.tuple #[.agg #[.int .i64 gn, .int .i64 k, .int .i64 i, .int .i64 r], .bool okv]) ∧ (w.alloc (.cells #[.int .i64 0, .int .i64 0, .int .i64 0] 33)).grownBy w' none)
    (hno : okv = false ∨ gn = 0 ∨ hbits p gn r ≠ h) :
    Calls Tryd.prog 14 #[.pointer (some ⟨tb, 0, none⟩), .int .u64 (h : Nat)] w fun e w' => e = .returned (.tuple #[.agg #[.int .i64 0, .int .i64 0, .int .i64 0], .int .i64 5]) ∧ w.grownBy w' none := by
  have hp : p < 65536 := by omega
  have ka := World.grownBy_alloc w (.cells #[.int .i64 0, .int .i64 0, .int .i64 0] 33) none
  have C1 : Hid (∀ v : World, Calls Tryd.prog 24 #[.int .u64 (h : Nat)] v fun e w' => e = .returned (.tuple #[.int .i64 p, .int .u64 (h / 16777216 : Nat), .int .i64 (h % 256 : Nat)]) ∧ v = w') := Lib.hid fun v => by
    have := parts_any h v hh
    rwa [hs] at this
  have CP : Hid (∀ v : World, Calls Tryd.prog 25 #[.int .i64 p, .int .i64 (gn : Nat), .int .i64 r] v fun e w' => e = .returned (.int .u64 (hbits p gn r : Nat)) ∧ v = w') := Lib.hid fun v => pack_any p gn r v (by omega) (by omega) hr
  generalize hH : hbits p gn r = h2 at *
  generalize h / 16777216 = x1 at *
  generalize h % 256 = x2 at *
  have CI : Hid (∀ v : World, Calls Tryd.prog 38 #[.agg #[.int .i64 (gn : Nat), .int .i64 k, .int .i64 i, .int .i64 (r : Nat)]] v fun e w' => e = .returned (.bool (decide (0 < (gn : Int)))) ∧ v.grownBy w' none) := Lib.hid fun v => isOut_any gn k i r v
  have KA := Lib.hid ka
  have CC2 := Lib.hid C2
  clear ka C2 hH
  go_enter Tryd.func14, Tryd.ntmps14
  go_wp2_with fail
  refine (C1.out _).mono ?_
  rintro e w' ⟨rfl, rfl⟩
  go_wp2_with fail
  refine CC2.out.mono ?_
  rintro e w1 ⟨rfl, k1⟩
  have hsz : w.heap.size < w1.heap.size := Nat.lt_of_lt_of_le (by simp) k1.size
  have bx : ∀ j, w1.cell? ⟨w.heap.size, j, none⟩ = (w.alloc (.cells #[.int .i64 0, .int .i64 0, .int .i64 0] 33)).cell? ⟨w.heap.size, j, none⟩ := fun j => k1.cell_far ⟨w.heap.size, j, none⟩ (by simp) (by simp)
  have bf : ∀ j, w1.frozen? ⟨w.heap.size, j, none⟩ = (w.alloc (.cells #[.int .i64 0, .int .i64 0, .int .i64 0] 33)).frozen? ⟨w.heap.size, j, none⟩ := fun j => k1.frozen_far ⟨w.heap.size, j, none⟩ (by simp) (by simp)
  have kk := KA.out.trans k1
  have x0 : w1.cell? ⟨w.heap.size, 0, none⟩ = some (.int .i64 0) := (bx 0).trans (World.cell?_alloc_new ..)
  have x1' : w1.cell? ⟨w.heap.size, 1, none⟩ = some (.int .i64 0) := (bx 1).trans (World.cell?_alloc_new ..)
  have x2' : w1.cell? ⟨w.heap.size, 2, none⟩ = some (.int .i64 0) := (bx 2).trans (World.cell?_alloc_new ..)
  have f0 : ∀ j, w1.frozen? ⟨w.heap.size, j, none⟩ = false := fun j => (bf j).trans (by simp)
  have kc := World.grownBy_alloc w1 (.cells #[.int .i64 (gn : Nat), .int .i64 k, .int .i64 i, .int .i64 (r : Nat)] 56) none
  have KK := Lib.hid (kk.trans kc)
  have fin : Hid (∀ v : World, (w1.alloc (.cells #[.int .i64 (gn : Nat), .int .i64 k, .int .i64 i, .int .i64 (r : Nat)] 56)).grownBy v none → w.grownBy v none ∧ v.cell? ⟨w.heap.size, 0, none⟩ = some (.int .i64 0) ∧ v.cell? ⟨w.heap.size, 1, none⟩ = some (.int .i64 0) ∧ v.cell? ⟨w.heap.size, 2, none⟩ = some (.int .i64 0) ∧ v.frozen? ⟨w.heap.size, 0, none⟩ = false ∧ v.frozen? ⟨w.heap.size, 1, none⟩ = false ∧ v.frozen? ⟨w.heap.size, 2, none⟩ = false ∧ v.cell? ⟨w1.heap.size, 0, none⟩ = some (.int .i64 (gn : Nat)) ∧ v.cell? ⟨w1.heap.size, 3, none⟩ = some (.int .i64 (r : Nat))) := Lib.hid fun v kv => by
    have kd := kc.trans kv
    have yy : ∀ j, v.cell? ⟨w1.heap.size, j, none⟩ = (w1.alloc (.cells #[.int .i64 (gn : Nat), .int .i64 k, .int .i64 i, .int .i64 (r : Nat)] 56)).cell? ⟨w1.heap.size, j, none⟩ := fun j => kv.cell_far ⟨w1.heap.size, j, none⟩ (by simp) (by simp)
    exact ⟨KK.out.trans kv, (kd.cell_far ⟨w.heap.size, 0, none⟩ hsz (by simp)).trans x0, (kd.cell_far ⟨w.heap.size, 1, none⟩ hsz (by simp)).trans x1', (kd.cell_far ⟨w.heap.size, 2, none⟩ hsz (by simp)).trans x2', (kd.frozen_far ⟨w.heap.size, 0, none⟩ hsz (by simp)).trans (f0 0), (kd.frozen_far ⟨w.heap.size, 1, none⟩ hsz (by simp)).trans (f0 1), (kd.frozen_far ⟨w.heap.size, 2, none⟩ hsz (by simp)).trans (f0 2), (yy 0).trans (World.cell?_alloc_new ..), (yy 3).trans (World.cell?_alloc_new ..)⟩
  have fin0 := fin.out _ (SR.grow_refl _)
  have K1 := Lib.hid kk
  have f1 := f0 0
  have f2 := f0 1
  have f3 := f0 2
  clear bx bf kk k1 f0 kc KK
  have hw1 : w1.heap.size ≠ w.heap.size := by omega
  cases okv
  · clear fin0 hno fin
    have old : ∀ (v : World) (o : Obj) (j : Nat), w.heap.size < v.heap.size → (v.alloc o).cell? ⟨w.heap.size, j, none⟩ = v.cell? ⟨w.heap.size, j, none⟩ := fun v o j h => (World.grownBy_alloc v o none).cell_far ⟨w.heap.size, j, none⟩ h (by simp)
    go_wp2
    exact bodyPost_ret (v := .tuple #[.agg #[.int .i64 0, .int .i64 0, .int .i64 0], .int .i64 5]) (by simp [results, Tryd.results14, go_sem, x0, x1', x2', old, size_set, hsz]) rfl
      ⟨rfl, Only.on K1.out ((((Only.set (lo := w.heap.size) (hi := w.heap.size + 1) _ ⟨w.heap.size, 0, none⟩ _ (Nat.le_refl _) (Nat.lt_succ_self _)).trans (Only.set _ ⟨w.heap.size, 1, none⟩ _ (Nat.le_refl _) (Nat.lt_succ_self _))).trans (Only.set _ ⟨w.heap.size, 2, none⟩ _ (Nat.le_refl _) (Nat.lt_succ_self _))).trans (Only.alloc _ _ _ _)) (Nat.le_refl _)⟩
  · clear fin0 x0 x1' x2' f1 f2 f3
    by_cases hg0 : gn = 0
    · subst hg0
      clear hno
      have CI0 : Hid (∀ v : World, Calls Tryd.prog 38 #[.agg #[.int .i64 ((0 : Nat) : Int), .int .i64 k, .int .i64 i, .int .i64 (r : Nat)]] v fun e w' => e = .returned (.bool false) ∧ v.grownBy w' none) := CI
      go_wp2_with fail
      refine (CI0.out _).mono ?_
      rintro e w2 ⟨rfl, k2⟩
      obtain ⟨K2, a0, a1, a2, g0, g1, g2, _, _⟩ := fin.out w2 k2
      have KF := Lib.hid K2
      clear K2 fin k2
      go_wp2
      exact bodyPost_ret (v := .tuple #[.agg #[.int .i64 0, .int .i64 0, .int .i64 0], .int .i64 5]) (by simp [results, Tryd.results14, go_sem, a0, a1, a2]) rfl
        ⟨rfl, Only.on KF.out (((Only.set (lo := w.heap.size) (hi := w.heap.size + 1) _ ⟨w.heap.size, 0, none⟩ _ (Nat.le_refl _) (Nat.lt_succ_self _)).trans (Only.set _ ⟨w.heap.size, 1, none⟩ _ (Nat.le_refl _) (Nat.lt_succ_self _))).trans (Only.set _ ⟨w.heap.size, 2, none⟩ _ (Nat.le_refl _) (Nat.lt_succ_self _))) (Nat.le_refl _)⟩
    · have hne : ¬ ((h2 : Int) = (h : Int)) := by
        rcases hno with h' | h' | h'
        · cases h'
        · exact absurd h' hg0
        · omega
      clear hno
      have CI0 : Hid (∀ v : World, Calls Tryd.prog 38 #[.agg #[.int .i64 (gn : Nat), .int .i64 k, .int .i64 i, .int .i64 (r : Nat)]] v fun e w' => e = .returned (.bool true) ∧ v.grownBy w' none) := Lib.hid fun v => by
        have := CI.out v
        rwa [show decide ((0 : Int) < (gn : Nat)) = true by simp; omega] at this
      go_wp2_with fail
      refine (CI0.out _).mono ?_
      rintro e w2 ⟨rfl, k2⟩
      obtain ⟨K2, a0, a1, a2, g0, g1, g2, y0, y3⟩ := fin.out w2 k2
      have KF := Lib.hid K2
      clear K2 fin k2
      go_wp2_with fail
      refine (CP.out _).mono ?_
      rintro e w' ⟨rfl, rfl⟩
      go_wp2
      exact bodyPost_ret (v := .tuple #[.agg #[.int .i64 0, .int .i64 0, .int .i64 0], .int .i64 5]) (by simp [results, Tryd.results14, go_sem, a0, a1, a2]) rfl
        ⟨rfl, Only.on KF.out (((Only.set (lo := w.heap.size) (hi := w.heap.size + 1) _ ⟨w.heap.size, 0, none⟩ _ (Nat.le_refl _) (Nat.lt_succ_self _)).trans (Only.set _ ⟨w.heap.size, 1, none⟩ _ (Nat.le_refl _) (Nat.lt_succ_self _))).trans (Only.set _ ⟨w.heap.size, 2, none⟩ _ (Nat.le_refl _) (Nat.lt_succ_self _))) (Nat.le_refl _)⟩

theorem look_no (h : Nat) (H : CapMem w tb rb ro pb po b g hb n G T) (hh : h < 18446744073709551616) (hno : ∀ p, p < n → (T p).out = true → hbits p (T p).gen (T p).r ≠ h) :
    Calls Tryd.prog 14 #[.pointer (some ⟨tb, 0, none⟩), .int .u64 (h : Nat)] w fun e w' => e = .returned (.tuple #[.agg #[.int .i64 0, .int .i64 0, .int .i64 0], .int .i64 5]) ∧ w.grownBy w' none := by
  have ka := World.grownBy_alloc w (.cells #[.int .i64 0, .int .i64 0, .int .i64 0] 33) none
  have Ha := H.kept ka
  by_cases h1 : h / 256 % 65536 < n ∧ (T (h / 256 % 65536)).full G = true
  · have C2 := SR.at_in (h / 256 % 65536) Ha.reg h1.1 h1.2
    cases ho : (T (h / 256 % 65536)).out with
    | false =>
      have hrow : (T (h / 256 % 65536)).row.val = .agg #[.int .i64 ((0 : Nat) : Int), .int .i64 0, .int .i64 0, .int .i64 ((0 : Nat) : Int)] := by simp [Pl.row, ho, SR.Pr.val, SR.Pr.none]
      rw [hrow] at C2
      exact look_core h _ 0 0 0 0 true hh rfl (by decide) (by decide) Ha.t0 C2 (Or.inr (Or.inl rfl))
    | true =>
      obtain ⟨o1, o2, o3⟩ := H.ok _ h1.1
      have := H.hG.2
      have hrow : (T (h / 256 % 65536)).row.val = .agg #[.int .i64 ((T (h / 256 % 65536)).gen : Nat), .int .i64 (T (h / 256 % 65536)).k, .int .i64 (T (h / 256 % 65536)).i, .int .i64 ((T (h / 256 % 65536)).r : Nat)] := by simp [Pl.row, ho, SR.Pr.val]
      rw [hrow] at C2
      exact look_core h _ _ _ _ _ true hh rfl o3 (by omega) Ha.t0 C2 (Or.inr (Or.inr (hno _ h1.1 ho)))
  · have C2 := SR.at_no ((h / 256 % 65536 : Nat) : Int) Ha.reg (by
      by_cases h2 : h / 256 % 65536 < n
      · refine Or.inr (Or.inr ?_)
        rw [Int.toNat_natCast]
        cases h3 : (T (h / 256 % 65536)).full G
        · rfl
        · exact absurd ⟨h2, h3⟩ h1
      · exact Or.inr (Or.inl (by omega)))
    exact look_core h _ 0 0 0 0 false hh rfl (by decide) (by decide) Ha.t0 C2 (Or.inl rfl)
end
end Go.Proofs.YtbkjdbimkofceaaDoor
