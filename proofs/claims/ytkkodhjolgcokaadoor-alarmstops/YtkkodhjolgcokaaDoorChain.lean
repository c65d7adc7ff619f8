/-
  Contracts of package chain, over this seat's translation: how lists lie in memory, and what each call answers and leaves.
-/
import Derived.Test.YtkkodhjolgcokaaDoorSmall
namespace Go.Proofs.YtkkodhjolgcokaaDoor
open Go.RowKit Go.Lib
set_option maxRecDepth 100000

/-- How lists lie: the struct in block lo + 4; its four slices in the four blocks ahead of it, in whichever order. -/
structure LinksMem (w : World) (lo bn bp bo bl n m : Nat) (N P : Nat → Nat) (O : Nat → Int) (Z : Nat → Nat) : Prop where
  hn : n ≤ 4096
  hm : m ≤ 4096
  c0 : w.cell? ⟨lo + 4, 0, none⟩ = some (.slice (some ⟨bn, 0, none⟩) (n + m) (n + m))
  c1 : w.cell? ⟨lo + 4, 1, none⟩ = some (.slice (some ⟨bp, 0, none⟩) (n + m) (n + m))
  c2 : w.cell? ⟨lo + 4, 2, none⟩ = some (.slice (some ⟨bo, 0, none⟩) n n)
  c3 : w.cell? ⟨lo + 4, 3, none⟩ = some (.slice (some ⟨bl, 0, none⟩) m m)
  cn : ∀ j, j < n + m → w.cell? ⟨bn, j, none⟩ = some (.int .i64 (N j : Nat))
  cp : ∀ j, j < n + m → w.cell? ⟨bp, j, none⟩ = some (.int .i64 (P j : Nat))
  co : ∀ j, j < n → w.cell? ⟨bo, j, none⟩ = some (.int .i64 (O j))
  cl : ∀ j, j < m → w.cell? ⟨bl, j, none⟩ = some (.int .i64 (Z j : Nat))
  fn : ∀ j, j < n + m → w.frozen? ⟨bn, j, none⟩ = false
  fp : ∀ j, j < n + m → w.frozen? ⟨bp, j, none⟩ = false
  fo : ∀ j, j < n → w.frozen? ⟨bo, j, none⟩ = false
  fl : ∀ j, j < m → w.frozen? ⟨bl, j, none⟩ = false
  rn : lo ≤ bn ∧ bn < lo + 4
  rp : lo ≤ bp ∧ bp < lo + 4
  ro : lo ≤ bo ∧ bo < lo + 4
  rl : lo ≤ bl ∧ bl < lo + 4
  dif : bn ≠ bp ∧ bn ≠ bo ∧ bn ≠ bl ∧ bp ≠ bo ∧ bp ≠ bl ∧ bo ≠ bl
  sz : lo + 5 ≤ w.heap.size

variable {w : World} {lo bn bp bo bl n m : Nat} {N P : Nat → Nat} {O : Nat → Int} {Z : Nat → Nat}

theorem LinksMem.kept {w' : World} {l h : Nat} (H : LinksMem w lo bn bp bo bl n m N P O Z) (k : Only l h w w') (hd : lo + 5 ≤ l ∨ h ≤ lo) : LinksMem w' lo bn bp bo bl n m N P O Z := by
  have hz := H.sz
  have r1 := H.rn
  have r2 := H.rp
  have r3 := H.ro
  have r4 := H.rl
  have cc : ∀ b j, lo ≤ b → b < lo + 5 → w'.cell? ⟨b, j, none⟩ = w.cell? ⟨b, j, none⟩ := fun b j h1 h2 => k.cell ⟨b, j, none⟩ (show b < _ by omega) (show b < l ∨ h ≤ b by omega)
  have ff : ∀ b j, lo ≤ b → b < lo + 5 → w'.frozen? ⟨b, j, none⟩ = w.frozen? ⟨b, j, none⟩ := fun b j h1 h2 => k.frozen ⟨b, j, none⟩ (show b < _ by omega) (show b < l ∨ h ≤ b by omega)
  exact ⟨H.hn, H.hm, (cc _ _ (by omega) (by omega)).trans H.c0, (cc _ _ (by omega) (by omega)).trans H.c1, (cc _ _ (by omega) (by omega)).trans H.c2, (cc _ _ (by omega) (by omega)).trans H.c3,
    fun j hj => (cc _ _ (by omega) (by omega)).trans (H.cn j hj), fun j hj => (cc _ _ (by omega) (by omega)).trans (H.cp j hj), fun j hj => (cc _ _ (by omega) (by omega)).trans (H.co j hj), fun j hj => (cc _ _ (by omega) (by omega)).trans (H.cl j hj),
    fun j hj => (ff _ _ (by omega) (by omega)).trans (H.fn j hj), fun j hj => (ff _ _ (by omega) (by omega)).trans (H.fp j hj), fun j hj => (ff _ _ (by omega) (by omega)).trans (H.fo j hj), fun j hj => (ff _ _ (by omega) (by omega)).trans (H.fl j hj),
    r1, r2, r3, r4, H.dif, Nat.le_trans hz k.size⟩

theorem size_setC (w : World) (a : Addr) (v : Value) : (w.setCell a v).heap.size = w.heap.size := by simp [World.setCell]

theorem LinksMem.setN (H : LinksMem w lo bn bp bo bl n m N P O Z) (a c : Nat) (ha : a < n + m) : LinksMem (w.setCell ⟨bn, a, none⟩ (.int .i64 (c : Nat))) lo bn bp bo bl n m (upN N a c) P O Z := by
  obtain ⟨d1, d2, d3, d4, d5, d6⟩ := H.dif
  have r1 := H.rn
  have r2 := H.rp
  have r3 := H.ro
  have r4 := H.rl
  have ot : ∀ b j, b ≠ bn → (w.setCell ⟨bn, a, none⟩ (.int .i64 (c : Nat))).cell? ⟨b, j, none⟩ = w.cell? ⟨b, j, none⟩ := fun b j hb => World.cell?_setCell_other _ _ _ _ (by intro e; cases e; exact hb rfl)
  refine ⟨H.hn, H.hm, (ot _ _ (by omega)).trans H.c0, (ot _ _ (by omega)).trans H.c1, (ot _ _ (by omega)).trans H.c2, (ot _ _ (by omega)).trans H.c3, fun j hj => ?_, fun j hj => (ot _ _ (by omega)).trans (H.cp j hj), fun j hj => (ot _ _ (by omega)).trans (H.co j hj), fun j hj => (ot _ _ (by omega)).trans (H.cl j hj),
    fun j hj => (World.frozen?_setCell ..).trans (H.fn j hj), fun j hj => (World.frozen?_setCell ..).trans (H.fp j hj), fun j hj => (World.frozen?_setCell ..).trans (H.fo j hj), fun j hj => (World.frozen?_setCell ..).trans (H.fl j hj), r1, r2, r3, r4, H.dif, by rw [size_setC]; exact H.sz⟩
  by_cases e : j = a
  · subst e; rw [upN_same]; exact World.cell?_setCell_same _ _ _ (H.cn j hj)
  · rw [upN_other _ _ _ _ e, World.cell?_setCell_other _ _ _ _ (by intro e'; cases e'; exact e rfl)]; exact H.cn j hj

theorem LinksMem.setP (H : LinksMem w lo bn bp bo bl n m N P O Z) (a c : Nat) (ha : a < n + m) : LinksMem (w.setCell ⟨bp, a, none⟩ (.int .i64 (c : Nat))) lo bn bp bo bl n m N (upN P a c) O Z := by
  obtain ⟨d1, d2, d3, d4, d5, d6⟩ := H.dif
  have r1 := H.rn
  have r2 := H.rp
  have r3 := H.ro
  have r4 := H.rl
  have ot : ∀ b j, b ≠ bp → (w.setCell ⟨bp, a, none⟩ (.int .i64 (c : Nat))).cell? ⟨b, j, none⟩ = w.cell? ⟨b, j, none⟩ := fun b j hb => World.cell?_setCell_other _ _ _ _ (by intro e; cases e; exact hb rfl)
  refine ⟨H.hn, H.hm, (ot _ _ (by omega)).trans H.c0, (ot _ _ (by omega)).trans H.c1, (ot _ _ (by omega)).trans H.c2, (ot _ _ (by omega)).trans H.c3, fun j hj => (ot _ _ (by omega)).trans (H.cn j hj), fun j hj => ?_, fun j hj => (ot _ _ (by omega)).trans (H.co j hj), fun j hj => (ot _ _ (by omega)).trans (H.cl j hj),
    fun j hj => (World.frozen?_setCell ..).trans (H.fn j hj), fun j hj => (World.frozen?_setCell ..).trans (H.fp j hj), fun j hj => (World.frozen?_setCell ..).trans (H.fo j hj), fun j hj => (World.frozen?_setCell ..).trans (H.fl j hj), r1, r2, r3, r4, H.dif, by rw [size_setC]; exact H.sz⟩
  by_cases e : j = a
  · subst e; rw [upN_same]; exact World.cell?_setCell_same _ _ _ (H.cp j hj)
  · rw [upN_other _ _ _ _ e, World.cell?_setCell_other _ _ _ _ (by intro e'; cases e'; exact e rfl)]; exact H.cp j hj

theorem LinksMem.setO (H : LinksMem w lo bn bp bo bl n m N P O Z) (a : Nat) (c : Int) (ha : a < n) : LinksMem (w.setCell ⟨bo, a, none⟩ (.int .i64 c)) lo bn bp bo bl n m N P (upI O a c) Z := by
  obtain ⟨d1, d2, d3, d4, d5, d6⟩ := H.dif
  have r1 := H.rn
  have r2 := H.rp
  have r3 := H.ro
  have r4 := H.rl
  have ot : ∀ b j, b ≠ bo → (w.setCell ⟨bo, a, none⟩ (.int .i64 c)).cell? ⟨b, j, none⟩ = w.cell? ⟨b, j, none⟩ := fun b j hb => World.cell?_setCell_other _ _ _ _ (by intro e; cases e; exact hb rfl)
  refine ⟨H.hn, H.hm, (ot _ _ (by omega)).trans H.c0, (ot _ _ (by omega)).trans H.c1, (ot _ _ (by omega)).trans H.c2, (ot _ _ (by omega)).trans H.c3, fun j hj => (ot _ _ (by omega)).trans (H.cn j hj), fun j hj => (ot _ _ (by omega)).trans (H.cp j hj), fun j hj => ?_, fun j hj => (ot _ _ (by omega)).trans (H.cl j hj),
    fun j hj => (World.frozen?_setCell ..).trans (H.fn j hj), fun j hj => (World.frozen?_setCell ..).trans (H.fp j hj), fun j hj => (World.frozen?_setCell ..).trans (H.fo j hj), fun j hj => (World.frozen?_setCell ..).trans (H.fl j hj), r1, r2, r3, r4, H.dif, by rw [size_setC]; exact H.sz⟩
  by_cases e : j = a
  · subst e; rw [upI_same]; exact World.cell?_setCell_same _ _ _ (H.co j hj)
  · rw [upI_other _ _ _ _ e, World.cell?_setCell_other _ _ _ _ (by intro e'; cases e'; exact e rfl)]; exact H.co j hj

theorem LinksMem.setZ (H : LinksMem w lo bn bp bo bl n m N P O Z) (a c : Nat) (ha : a < m) : LinksMem (w.setCell ⟨bl, a, none⟩ (.int .i64 (c : Nat))) lo bn bp bo bl n m N P O (upN Z a c) := by
  obtain ⟨d1, d2, d3, d4, d5, d6⟩ := H.dif
  have r1 := H.rn
  have r2 := H.rp
  have r3 := H.ro
  have r4 := H.rl
  have ot : ∀ b j, b ≠ bl → (w.setCell ⟨bl, a, none⟩ (.int .i64 (c : Nat))).cell? ⟨b, j, none⟩ = w.cell? ⟨b, j, none⟩ := fun b j hb => World.cell?_setCell_other _ _ _ _ (by intro e; cases e; exact hb rfl)
  refine ⟨H.hn, H.hm, (ot _ _ (by omega)).trans H.c0, (ot _ _ (by omega)).trans H.c1, (ot _ _ (by omega)).trans H.c2, (ot _ _ (by omega)).trans H.c3, fun j hj => (ot _ _ (by omega)).trans (H.cn j hj), fun j hj => (ot _ _ (by omega)).trans (H.cp j hj), fun j hj => (ot _ _ (by omega)).trans (H.co j hj), fun j hj => ?_,
    fun j hj => (World.frozen?_setCell ..).trans (H.fn j hj), fun j hj => (World.frozen?_setCell ..).trans (H.fp j hj), fun j hj => (World.frozen?_setCell ..).trans (H.fo j hj), fun j hj => (World.frozen?_setCell ..).trans (H.fl j hj), r1, r2, r3, r4, H.dif, by rw [size_setC]; exact H.sz⟩
  by_cases e : j = a
  · subst e; rw [upN_same]; exact World.cell?_setCell_same _ _ _ (H.cl j hj)
  · rw [upN_other _ _ _ _ e, World.cell?_setCell_other _ _ _ _ (by intro e'; cases e'; exact e rfl)]; exact H.cl j hj

theorem LinksMem.drew (H : LinksMem w lo bn bp bo bl n m N P O Z) : LinksMem w.drew lo bn bp bo bl n m N P O Z := H.kept (Only.drew 0 0 w) (Or.inr (by omega))
theorem LinksMem.drewN (H : LinksMem w lo bn bp bo bl n m N P O Z) (k : Nat) : LinksMem (w.drewN k) lo bn bp bo bl n m N P O Z := H.kept (Only.drewN 0 0 w k) (Or.inr (by omega))

set_option maxHeartbeats 400000 in
theorem clamp_anyC (n lo hi : Int) (w : World) :
    Calls Tryd.prog 58 #[.int .i64 n, .int .i64 lo, .int .i64 hi] w fun e w' => e = .returned (.int .i64 (max lo (min n hi))) ∧ w = w' := by
  go_enter Tryd.func58, Tryd.ntmps58
  go_wp2
  all_goals
    go_ret
    exact ⟨ret_intC (by omega), rfl⟩

/-- Is a number one of the first n? -/
def isIn (k : Int) (n : Nat) : Bool := decide (0 ≤ k ∧ k < (n : Int))
theorem isIn_yes {k : Nat} {n : Nat} (h : k < n) : isIn (k : Int) n = true := by simp [isIn, h]
theorem isIn_no {k : Int} {n : Nat} (h : k < 0 ∨ (n : Int) ≤ k) : isIn k n = false := by simp [isIn]; omega

theorem isNumber_any (k : Int) (H : LinksMem w lo bn bp bo bl n m N P O Z) :
    Calls Tryd.prog 64 #[.pointer (some ⟨lo + 4, 0, none⟩), .int .i64 k] w fun e w' => e = .returned (.bool (isIn k n)) ∧ w = w' := by
  have h2 := H.c2
  clear H
  by_cases h0 : k < 0
  · have hr := isIn_no (k := k) (n := n) (Or.inl h0)
    rw [hr]
    clear hr
    go_enter Tryd.func64, Tryd.ntmps64
    go_wp2
    go_ret
    exact ⟨rfl, rfl⟩
  · have h0' : 0 ≤ k := by omega
    by_cases h1 : k < (n : Int)
    · have hr : isIn k n = true := by simp [isIn, h0', h1]
      rw [hr]
      clear hr h0
      go_enter Tryd.func64, Tryd.ntmps64
      go_wp2
      go_ret
      exact ⟨rfl, rfl⟩
    · have hr : isIn k n = false := isIn_no (Or.inr (by omega))
      rw [hr]
      clear hr h0
      go_enter Tryd.func64, Tryd.ntmps64
      go_wp2
      go_ret
      exact ⟨rfl, rfl⟩

theorem isList_any (k : Int) (H : LinksMem w lo bn bp bo bl n m N P O Z) :
    Calls Tryd.prog 67 #[.pointer (some ⟨lo + 4, 0, none⟩), .int .i64 k] w fun e w' => e = .returned (.bool (isIn k m)) ∧ w = w' := by
  have h2 := H.c3
  clear H
  by_cases h0 : k < 0
  · have hr := isIn_no (k := k) (n := m) (Or.inl h0)
    rw [hr]
    clear hr
    go_enter Tryd.func67, Tryd.ntmps67
    go_wp2
    go_ret
    exact ⟨rfl, rfl⟩
  · have h0' : 0 ≤ k := by omega
    by_cases h1 : k < (m : Int)
    · have hr : isIn k m = true := by simp [isIn, h0', h1]
      rw [hr]
      clear hr h0
      go_enter Tryd.func67, Tryd.ntmps67
      go_wp2
      go_ret
      exact ⟨rfl, rfl⟩
    · have hr : isIn k m = false := isIn_no (Or.inr (by omega))
      rw [hr]
      clear hr h0
      go_enter Tryd.func67, Tryd.ntmps67
      go_wp2
      go_ret
      exact ⟨rfl, rfl⟩

theorem knot_any (i : Nat) (H : LinksMem w lo bn bp bo bl n m N P O Z) (hi : i < m) :
    Calls Tryd.prog 68 #[.pointer (some ⟨lo + 4, 0, none⟩), .int .i64 i] w fun e w' => e = .returned (.int .i64 ((n + i : Nat) : Int)) ∧ w = w' := by
  have h2 := H.c2
  have h3 := H.hn
  have h4 := H.hm
  clear H
  go_enter Tryd.func68, Tryd.ntmps68
  go_wp2
  go_ret
  exact ⟨ret_intC (by simp), rfl⟩

theorem join_any (a c : Nat) (H : LinksMem w lo bn bp bo bl n m N P O Z) (ha : a < n + m) (hc : c < n + m) :
    Calls Tryd.prog 65 #[.pointer (some ⟨lo + 4, 0, none⟩), .int .i64 a, .int .i64 c] w fun e w' => e = .returned (.tuple #[]) ∧ Only lo (lo + 5) w w' ∧ LinksMem w' lo bn bp bo bl n m (upN N a c) (upN P c a) O Z := by
  have h0 := H.c0
  have h2 := H.cn a ha
  have h3 := H.fn a ha
  have h4 := H.hn
  have h5 := H.hm
  have H1 := H.setN a c ha
  have k1 := H1.c1
  have k2 := H1.cp c hc
  have k3 := H1.fp c hc
  have H2 := Lib.hid (H1.setP c a hc)
  have r1 := Lib.hid (Only.set (lo := lo) (hi := lo + 5) w ⟨bn, a, none⟩ (.int .i64 (c : Nat)) H.rn.1 (by have := H.rn.2; simp; omega))
  have r2 := Lib.hid (Only.set (lo := lo) (hi := lo + 5) (w.setCell ⟨bn, a, none⟩ (.int .i64 (c : Nat))) ⟨bp, c, none⟩ (.int .i64 (a : Nat)) H.rp.1 (by have := H.rp.2; simp; omega))
  clear H H1
  have e1 : (a : Int) < (n : Int) + m := by omega
  have e2 : (c : Int) < (n : Int) + m := by omega
  go_enter Tryd.func65, Tryd.ntmps65
  go_wp2
  go_end0
  exact ⟨rfl, r1.out.trans r2.out, H2.out⟩

end Go.Proofs.YtkkodhjolgcokaaDoor
