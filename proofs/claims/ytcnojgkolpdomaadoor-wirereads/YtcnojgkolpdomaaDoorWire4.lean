/-
  wire.parse, over this seat's translation.
-/
import Derived.Test.YtcnojgkolpdomaaDoorWire4a
import Derived.Deep.MidRow
namespace Go.Proofs.YtcnojgkolpdomaaDoor
open Go.RowKit Go.Lib
set_option maxRecDepth 100000
set_option linter.unusedVariables false

theorem bits_or_i64_nat (a b : Nat) (ha : a < 4611686018427387904) (hb : b < 4611686018427387904) : bits .or .i64 (a : Int) (b : Int) = ((a ||| b : Nat) : Int) := by
  have hx : a ||| b < 2 ^ 62 := Nat.or_lt_two_pow (by omega) (by omega)
  have h1 : (BitVec.ofInt 64 (a : Int)).toNat = a := by
    rw [BitVec.ofInt_natCast, BitVec.toNat_ofNat]; exact Nat.mod_eq_of_lt (by omega)
  have h2 : (BitVec.ofInt 64 (b : Int)).toNat = b := by
    rw [BitVec.ofInt_natCast, BitVec.toNat_ofNat]; exact Nat.mod_eq_of_lt (by omega)
  show IntKind.i64.wrap ((BitVec.ofInt 64 (a : Int) ||| BitVec.ofInt 64 (b : Int)).toNat : Int) = _
  rw [BitVec.toNat_or, h1, h2, IntKind.wrap_i64]
  omega
theorem orI64 (x y : Nat) (hx : x < 256) (hy : y < 256) : bits .or .i64 (x : Int) ((y : Int) * 256) = ((x + 256 * y : Nat) : Int) := by
  rw [show (y : Int) * 256 = ((y * 256 : Nat) : Int) by omega, bits_or_i64_nat x (y * 256) (by omega) (by omega)]
  have hh := Nat.shiftLeft_add_eq_or_of_lt (a := y) (b := x) (i := 8) (by omega)
  rw [Nat.shiftLeft_eq] at hh
  rw [Nat.or_comm, show (256 : Nat) = 2 ^ 8 from rfl, ← hh]
  congr 1
  omega
theorem ResE.some {w wr : World} {X : Nat} (H : ResE w wr X) (i : Nat) (hi : i < 9) : ∃ u, wr.cell? ⟨X, i, none⟩ = some u := by
  have h := H.r i hi
  match i, hi with
  | 0, _ => exact ⟨_, h⟩ | 1, _ => exact ⟨_, h⟩ | 2, _ => exact ⟨_, h⟩ | 3, _ => exact ⟨_, h⟩ | 4, _ => exact ⟨_, h⟩ | 5, _ => exact ⟨_, h⟩ | 6, _ => exact ⟨_, h⟩ | 7, _ => exact ⟨_, h⟩ | 8, _ => exact ⟨_, h⟩

set_option maxHeartbeats 1000000 in
theorem wparse_0 {w : World} {v : Value} {F : List Nat} (H : ReadsB w v F) (hl : F.length = 0) :
    Calls Tryd.prog 42 #[v] w fun r w' => r = .returned (.tuple #[zE.val, .bool false]) ∧ w.grownBy w' none := by
  obtain ⟨a, cap, rfl, hx1, hx2, hx3, hx4⟩ := H
  rw [hl]
  clear hx1 hx2 hx3 hx4 hl
  unfold zE En.val zC
  simp only
  go_enter Tryd.func42, Tryd.ntmps42
  go_wp2
  exact bodyPost_ret (v := .tuple #[.agg #[.int .i64 0, .int .i64 0, .int .i64 0, .int .i64 0, .int .u64 0, .int .u64 0, .int .u64 0, .int .i64 0, .int .i64 0], .bool false]) (by simp [results, Tryd.results42, go_sem]) rfl ⟨rfl, World.grownBy_alloc w _ none⟩

/-- The first bytes of a row, and how its rest lies. -/
theorem ReadsB.get {w : World} {b o cap : Nat} {F : List Nat} (h : ReadsB w (.slice (some ⟨b, o, none⟩) F.length cap) F) (j : Nat) (hj : j < F.length) : w.cell? ⟨b, o + j, none⟩ = some (.int .u8 (F.getD j 0 : Nat)) ∧ F.getD j 0 < 256 ∧ b < w.heap.size := by
  obtain ⟨a', cap', e, h1, h2, h3, h4⟩ := h
  injection e with e1 e2 e3
  subst e1 e3
  obtain ⟨b', o', e, hb, hc⟩ := h4 (by omega)
  injection e with e
  injection e with e5 e6
  subst e5 e6
  have eg : F.getD j 0 = F[j] := by rw [List.getD_eq_getElem?_getD, List.getElem?_eq_getElem hj]; rfl
  rw [eg]
  exact ⟨hc j hj, h3 _ (List.getElem_mem hj), hb⟩

set_option maxHeartbeats 2000000 in
theorem wparse_x {w : World} {v : Value} {F : List Nat} (H : ReadsB w v F) (hl : 0 < F.length) (h0 : ¬ (F.getD 0 0 = 0 ∧ F.length = 3)) (h1 : ¬ (F.getD 0 0 = 1 ∧ 2 ≤ F.length)) (h2 : ¬ (F.getD 0 0 = 2 ∧ F.length = 4)) :
    Calls Tryd.prog 42 #[v] w fun r w' => r = .returned (.tuple #[zE.val, .bool false]) ∧ w.grownBy w' none := by
  obtain ⟨a0, cap, rfl, hx1, hx2, hx3, hx4⟩ := H
  obtain ⟨b, o, rfl, hb, hc⟩ := hx4 (by omega)
  have HH : Hid (ReadsB w (.slice (some ⟨b, o, none⟩) F.length cap) F) := Lib.hid ⟨_, cap, rfl, hx1, hx2, hx3, hx4⟩
  have hcap : F.length ≤ cap := hx1
  clear hx1 hx2 hx4 hc hb
  have k1 := World.grownBy_alloc w (.cells #[.int .i64 0, .int .i64 0, .int .i64 0, .int .i64 0, .int .u64 0, .int .u64 0, .int .u64 0, .int .i64 0, .int .i64 0] 55) none
  have c0 := ((HH.out.grown k1).get 0 (by omega)).1
  have b0 := ((HH.out.grown k1).get 0 (by omega)).2.1
  have hb0 := ((HH.out.grown k1).get 0 (by omega)).2.2
  rw [Nat.add_zero] at c0
  have hneb : b ≠ w.heap.size := by
    have := (HH.out.get 0 (by omega)).2.2
    omega
  generalize F.getD 0 0 = f0 at *
  have q1 : (((F.length : Nat) : Int) == 0) = false := by rw [beq_eq_false_iff_ne]; omega
  have q2 : (0 : Int) < ((F.length : Nat) : Int) := by omega
  have q3 : (1 : Int) ≤ ((F.length : Nat) : Int) := by omega
  generalize F.length = n at *
  have r0 : f0 = 0 → (((n - 1 : Nat) : Int) == 2) = false := fun h => by rw [beq_eq_false_iff_ne]; omega
  have r1 : f0 = 1 → ¬ (((n - 1 : Nat) : Int) > 0) := fun h => by omega
  have r2 : f0 = 2 → (((n - 1 : Nat) : Int) == 3) = false := fun h => by rw [beq_eq_false_iff_ne]; omega
  unfold zE En.val zC
  simp only
  have KK := Lib.hid k1
  clear k1 HH hb0 h0 h1 h2
  have hc1 : cap = 1 ∨ ¬ cap = 1 := by omega
  have hf : f0 = 0 ∨ f0 = 1 ∨ f0 = 2 ∨ ((((f0 : Nat) : Int) == 0) = false ∧ (((f0 : Nat) : Int) == 1) = false ∧ (((f0 : Nat) : Int) == 2) = false) := by
    by_cases e0 : f0 = 0
    · exact Or.inl e0
    by_cases e1 : f0 = 1
    · exact Or.inr (Or.inl e1)
    by_cases e2 : f0 = 2
    · exact Or.inr (Or.inr (Or.inl e2))
    exact Or.inr (Or.inr (Or.inr ⟨by rw [beq_eq_false_iff_ne]; omega, by rw [beq_eq_false_iff_ne]; omega, by rw [beq_eq_false_iff_ne]; omega⟩))
  rcases hc1 with rfl | hc1
  · rcases hf with rfl | rfl | rfl | ⟨g0, g1, g2⟩
    · skip
      have r := r0 rfl
      clear r0 r1 r2
      go_enter Tryd.func42, Tryd.ntmps42
      go_wp2_with fail
      go_quiet (fail)
      have HR := Lib.hid ((rese_new (World.grownBy.refl w none)).kept (⟨rfl, rfl, rfl, Nat.le_refl _, fun _ _ _ => rfl⟩ : (w.alloc (.cells #[.int .i64 0, .int .i64 0, .int .i64 0, .int .i64 0, .int .u64 0, .int .u64 0, .int .u64 0, .int .i64 0, .int .i64 0] 55)).grownBy ((w.alloc (.cells #[.int .i64 0, .int .i64 0, .int .i64 0, .int .i64 0, .int .u64 0, .int .u64 0, .int .u64 0, .int .i64 0, .int .i64 0] 55)).drewN nq) none))
      have hwX : w.heap.size ≤ w.heap.size := Nat.le_refl _
      generalize (w.alloc (.cells #[.int .i64 0, .int .i64 0, .int .i64 0, .int .i64 0, .int .u64 0, .int .u64 0, .int .u64 0, .int .i64 0, .int .i64 0] 55)).drewN nq = wr at *
      generalize hXX : w.heap.size = X at *
      clear hXX hwX
      have z0 : wr.cell? ⟨X, 0, none⟩ = some (.int .i64 0) := HR.out.r 0 (by decide)
      have zf0 := HR.out.rf 0
      have z1 : wr.cell? ⟨X, 1, none⟩ = some (.int .i64 0) := HR.out.r 1 (by decide)
      have zf1 := HR.out.rf 1
      have z2 : wr.cell? ⟨X, 2, none⟩ = some (.int .i64 0) := HR.out.r 2 (by decide)
      have zf2 := HR.out.rf 2
      have z3 : wr.cell? ⟨X, 3, none⟩ = some (.int .i64 0) := HR.out.r 3 (by decide)
      have zf3 := HR.out.rf 3
      have z4 : wr.cell? ⟨X, 4, none⟩ = some (.int .u64 0) := HR.out.r 4 (by decide)
      have zf4 := HR.out.rf 4
      have z5 : wr.cell? ⟨X, 5, none⟩ = some (.int .u64 0) := HR.out.r 5 (by decide)
      have zf5 := HR.out.rf 5
      have z6 : wr.cell? ⟨X, 6, none⟩ = some (.int .u64 0) := HR.out.r 6 (by decide)
      have zf6 := HR.out.rf 6
      have z7 : wr.cell? ⟨X, 7, none⟩ = some (.int .i64 0) := HR.out.r 7 (by decide)
      have zf7 := HR.out.rf 7
      have z8 : wr.cell? ⟨X, 8, none⟩ = some (.int .i64 0) := HR.out.r 8 (by decide)
      have zf8 := HR.out.rf 8
      go_wp2
      have ho := put9_only wr X (.int .i64 0) (.int .i64 0) (.int .i64 0) (.int .i64 0) (.int .u64 0) (.int .u64 0) (.int .u64 0) (.int .i64 0) (.int .i64 0)
      have hy := put9_at (w := wr) (X := X) (.int .i64 0) (.int .i64 0) (.int .i64 0) (.int .i64 0) (.int .u64 0) (.int .u64 0) (.int .u64 0) (.int .i64 0) (.int .i64 0) (fun i hi => HR.out.some i hi)
      have y0 : (put9 wr X (.int .i64 0) (.int .i64 0) (.int .i64 0) (.int .i64 0) (.int .u64 0) (.int .u64 0) (.int .u64 0) (.int .i64 0) (.int .i64 0)).cell? ⟨X, 0, none⟩ = some (.int .i64 0) := hy 0 (by decide)
      have y1 : (put9 wr X (.int .i64 0) (.int .i64 0) (.int .i64 0) (.int .i64 0) (.int .u64 0) (.int .u64 0) (.int .u64 0) (.int .i64 0) (.int .i64 0)).cell? ⟨X, 1, none⟩ = some (.int .i64 0) := hy 1 (by decide)
      have y2 : (put9 wr X (.int .i64 0) (.int .i64 0) (.int .i64 0) (.int .i64 0) (.int .u64 0) (.int .u64 0) (.int .u64 0) (.int .i64 0) (.int .i64 0)).cell? ⟨X, 2, none⟩ = some (.int .i64 0) := hy 2 (by decide)
      have y3 : (put9 wr X (.int .i64 0) (.int .i64 0) (.int .i64 0) (.int .i64 0) (.int .u64 0) (.int .u64 0) (.int .u64 0) (.int .i64 0) (.int .i64 0)).cell? ⟨X, 3, none⟩ = some (.int .i64 0) := hy 3 (by decide)
      have y4 : (put9 wr X (.int .i64 0) (.int .i64 0) (.int .i64 0) (.int .i64 0) (.int .u64 0) (.int .u64 0) (.int .u64 0) (.int .i64 0) (.int .i64 0)).cell? ⟨X, 4, none⟩ = some (.int .u64 0) := hy 4 (by decide)
      have y5 : (put9 wr X (.int .i64 0) (.int .i64 0) (.int .i64 0) (.int .i64 0) (.int .u64 0) (.int .u64 0) (.int .u64 0) (.int .i64 0) (.int .i64 0)).cell? ⟨X, 5, none⟩ = some (.int .u64 0) := hy 5 (by decide)
      have y6 : (put9 wr X (.int .i64 0) (.int .i64 0) (.int .i64 0) (.int .i64 0) (.int .u64 0) (.int .u64 0) (.int .u64 0) (.int .i64 0) (.int .i64 0)).cell? ⟨X, 6, none⟩ = some (.int .u64 0) := hy 6 (by decide)
      have y7 : (put9 wr X (.int .i64 0) (.int .i64 0) (.int .i64 0) (.int .i64 0) (.int .u64 0) (.int .u64 0) (.int .u64 0) (.int .i64 0) (.int .i64 0)).cell? ⟨X, 7, none⟩ = some (.int .i64 0) := hy 7 (by decide)
      have y8 : (put9 wr X (.int .i64 0) (.int .i64 0) (.int .i64 0) (.int .i64 0) (.int .u64 0) (.int .u64 0) (.int .u64 0) (.int .i64 0) (.int .i64 0)).cell? ⟨X, 8, none⟩ = some (.int .i64 0) := hy 8 (by decide)
      change bodyPost _ _ _ _ _ (put9 wr X (.int .i64 0) (.int .i64 0) (.int .i64 0) (.int .i64 0) (.int .u64 0) (.int .u64 0) (.int .u64 0) (.int .i64 0) (.int .i64 0))
      clear hy
      generalize put9 wr X (.int .i64 0) (.int .i64 0) (.int .i64 0) (.int .i64 0) (.int .u64 0) (.int .u64 0) (.int .u64 0) (.int .i64 0) (.int .i64 0) = wF at *
      exact bodyPost_ret (v := .tuple #[.agg #[.int .i64 0, .int .i64 0, .int .i64 0, .int .i64 0, .int .u64 0, .int .u64 0, .int .u64 0, .int .i64 0, .int .i64 0], .bool false]) (by simp [results, Tryd.results42, go_sem, y0, y1, y2, y3, y4, y5, y6, y7, y8]) rfl ⟨rfl, Only.on HR.out.g ho HR.out.xw⟩
    · skip
      have r := r1 rfl
      clear r0 r1 r2
      go_enter Tryd.func42, Tryd.ntmps42
      go_wp2_with fail
      go_quiet (fail)
      have HR := Lib.hid ((rese_new (World.grownBy.refl w none)).kept (⟨rfl, rfl, rfl, Nat.le_refl _, fun _ _ _ => rfl⟩ : (w.alloc (.cells #[.int .i64 0, .int .i64 0, .int .i64 0, .int .i64 0, .int .u64 0, .int .u64 0, .int .u64 0, .int .i64 0, .int .i64 0] 55)).grownBy ((w.alloc (.cells #[.int .i64 0, .int .i64 0, .int .i64 0, .int .i64 0, .int .u64 0, .int .u64 0, .int .u64 0, .int .i64 0, .int .i64 0] 55)).drewN nq) none))
      have hwX : w.heap.size ≤ w.heap.size := Nat.le_refl _
      generalize (w.alloc (.cells #[.int .i64 0, .int .i64 0, .int .i64 0, .int .i64 0, .int .u64 0, .int .u64 0, .int .u64 0, .int .i64 0, .int .i64 0] 55)).drewN nq = wr at *
      generalize hXX : w.heap.size = X at *
      clear hXX hwX
      have z0 : wr.cell? ⟨X, 0, none⟩ = some (.int .i64 0) := HR.out.r 0 (by decide)
      have zf0 := HR.out.rf 0
      have z1 : wr.cell? ⟨X, 1, none⟩ = some (.int .i64 0) := HR.out.r 1 (by decide)
      have zf1 := HR.out.rf 1
      have z2 : wr.cell? ⟨X, 2, none⟩ = some (.int .i64 0) := HR.out.r 2 (by decide)
      have zf2 := HR.out.rf 2
      have z3 : wr.cell? ⟨X, 3, none⟩ = some (.int .i64 0) := HR.out.r 3 (by decide)
      have zf3 := HR.out.rf 3
      have z4 : wr.cell? ⟨X, 4, none⟩ = some (.int .u64 0) := HR.out.r 4 (by decide)
      have zf4 := HR.out.rf 4
      have z5 : wr.cell? ⟨X, 5, none⟩ = some (.int .u64 0) := HR.out.r 5 (by decide)
      have zf5 := HR.out.rf 5
      have z6 : wr.cell? ⟨X, 6, none⟩ = some (.int .u64 0) := HR.out.r 6 (by decide)
      have zf6 := HR.out.rf 6
      have z7 : wr.cell? ⟨X, 7, none⟩ = some (.int .i64 0) := HR.out.r 7 (by decide)
      have zf7 := HR.out.rf 7
      have z8 : wr.cell? ⟨X, 8, none⟩ = some (.int .i64 0) := HR.out.r 8 (by decide)
      have zf8 := HR.out.rf 8
      go_wp2
      have ho := put9_only wr X (.int .i64 0) (.int .i64 0) (.int .i64 0) (.int .i64 0) (.int .u64 0) (.int .u64 0) (.int .u64 0) (.int .i64 0) (.int .i64 0)
      have hy := put9_at (w := wr) (X := X) (.int .i64 0) (.int .i64 0) (.int .i64 0) (.int .i64 0) (.int .u64 0) (.int .u64 0) (.int .u64 0) (.int .i64 0) (.int .i64 0) (fun i hi => HR.out.some i hi)
      have y0 : (put9 wr X (.int .i64 0) (.int .i64 0) (.int .i64 0) (.int .i64 0) (.int .u64 0) (.int .u64 0) (.int .u64 0) (.int .i64 0) (.int .i64 0)).cell? ⟨X, 0, none⟩ = some (.int .i64 0) := hy 0 (by decide)
      have y1 : (put9 wr X (.int .i64 0) (.int .i64 0) (.int .i64 0) (.int .i64 0) (.int .u64 0) (.int .u64 0) (.int .u64 0) (.int .i64 0) (.int .i64 0)).cell? ⟨X, 1, none⟩ = some (.int .i64 0) := hy 1 (by decide)
      have y2 : (put9 wr X (.int .i64 0) (.int .i64 0) (.int .i64 0) (.int .i64 0) (.int .u64 0) (.int .u64 0) (.int .u64 0) (.int .i64 0) (.int .i64 0)).cell? ⟨X, 2, none⟩ = some (.int .i64 0) := hy 2 (by decide)
      have y3 : (put9 wr X (.int .i64 0) (.int .i64 0) (.int .i64 0) (.int .i64 0) (.int .u64 0) (.int .u64 0) (.int .u64 0) (.int .i64 0) (.int .i64 0)).cell? ⟨X, 3, none⟩ = some (.int .i64 0) := hy 3 (by decide)
      have y4 : (put9 wr X (.int .i64 0) (.int .i64 0) (.int .i64 0) (.int .i64 0) (.int .u64 0) (.int .u64 0) (.int .u64 0) (.int .i64 0) (.int .i64 0)).cell? ⟨X, 4, none⟩ = some (.int .u64 0) := hy 4 (by decide)
      have y5 : (put9 wr X (.int .i64 0) (.int .i64 0) (.int .i64 0) (.int .i64 0) (.int .u64 0) (.int .u64 0) (.int .u64 0) (.int .i64 0) (.int .i64 0)).cell? ⟨X, 5, none⟩ = some (.int .u64 0) := hy 5 (by decide)
      have y6 : (put9 wr X (.int .i64 0) (.int .i64 0) (.int .i64 0) (.int .i64 0) (.int .u64 0) (.int .u64 0) (.int .u64 0) (.int .i64 0) (.int .i64 0)).cell? ⟨X, 6, none⟩ = some (.int .u64 0) := hy 6 (by decide)
      have y7 : (put9 wr X (.int .i64 0) (.int .i64 0) (.int .i64 0) (.int .i64 0) (.int .u64 0) (.int .u64 0) (.int .u64 0) (.int .i64 0) (.int .i64 0)).cell? ⟨X, 7, none⟩ = some (.int .i64 0) := hy 7 (by decide)
      have y8 : (put9 wr X (.int .i64 0) (.int .i64 0) (.int .i64 0) (.int .i64 0) (.int .u64 0) (.int .u64 0) (.int .u64 0) (.int .i64 0) (.int .i64 0)).cell? ⟨X, 8, none⟩ = some (.int .i64 0) := hy 8 (by decide)
      change bodyPost _ _ _ _ _ (put9 wr X (.int .i64 0) (.int .i64 0) (.int .i64 0) (.int .i64 0) (.int .u64 0) (.int .u64 0) (.int .u64 0) (.int .i64 0) (.int .i64 0))
      clear hy
      generalize put9 wr X (.int .i64 0) (.int .i64 0) (.int .i64 0) (.int .i64 0) (.int .u64 0) (.int .u64 0) (.int .u64 0) (.int .i64 0) (.int .i64 0) = wF at *
      exact bodyPost_ret (v := .tuple #[.agg #[.int .i64 0, .int .i64 0, .int .i64 0, .int .i64 0, .int .u64 0, .int .u64 0, .int .u64 0, .int .i64 0, .int .i64 0], .bool false]) (by simp [results, Tryd.results42, go_sem, y0, y1, y2, y3, y4, y5, y6, y7, y8]) rfl ⟨rfl, Only.on HR.out.g ho HR.out.xw⟩
    · skip
      have r := r2 rfl
      clear r0 r1 r2
      go_enter Tryd.func42, Tryd.ntmps42
      go_wp2_with fail
      go_quiet (fail)
      have HR := Lib.hid ((rese_new (World.grownBy.refl w none)).kept (⟨rfl, rfl, rfl, Nat.le_refl _, fun _ _ _ => rfl⟩ : (w.alloc (.cells #[.int .i64 0, .int .i64 0, .int .i64 0, .int .i64 0, .int .u64 0, .int .u64 0, .int .u64 0, .int .i64 0, .int .i64 0] 55)).grownBy ((w.alloc (.cells #[.int .i64 0, .int .i64 0, .int .i64 0, .int .i64 0, .int .u64 0, .int .u64 0, .int .u64 0, .int .i64 0, .int .i64 0] 55)).drewN nq) none))
      have hwX : w.heap.size ≤ w.heap.size := Nat.le_refl _
      generalize (w.alloc (.cells #[.int .i64 0, .int .i64 0, .int .i64 0, .int .i64 0, .int .u64 0, .int .u64 0, .int .u64 0, .int .i64 0, .int .i64 0] 55)).drewN nq = wr at *
      generalize hXX : w.heap.size = X at *
      clear hXX hwX
      have z0 : wr.cell? ⟨X, 0, none⟩ = some (.int .i64 0) := HR.out.r 0 (by decide)
      have zf0 := HR.out.rf 0
      have z1 : wr.cell? ⟨X, 1, none⟩ = some (.int .i64 0) := HR.out.r 1 (by decide)
      have zf1 := HR.out.rf 1
      have z2 : wr.cell? ⟨X, 2, none⟩ = some (.int .i64 0) := HR.out.r 2 (by decide)
      have zf2 := HR.out.rf 2
      have z3 : wr.cell? ⟨X, 3, none⟩ = some (.int .i64 0) := HR.out.r 3 (by decide)
      have zf3 := HR.out.rf 3
      have z4 : wr.cell? ⟨X, 4, none⟩ = some (.int .u64 0) := HR.out.r 4 (by decide)
      have zf4 := HR.out.rf 4
      have z5 : wr.cell? ⟨X, 5, none⟩ = some (.int .u64 0) := HR.out.r 5 (by decide)
      have zf5 := HR.out.rf 5
      have z6 : wr.cell? ⟨X, 6, none⟩ = some (.int .u64 0) := HR.out.r 6 (by decide)
      have zf6 := HR.out.rf 6
      have z7 : wr.cell? ⟨X, 7, none⟩ = some (.int .i64 0) := HR.out.r 7 (by decide)
      have zf7 := HR.out.rf 7
      have z8 : wr.cell? ⟨X, 8, none⟩ = some (.int .i64 0) := HR.out.r 8 (by decide)
      have zf8 := HR.out.rf 8
      go_wp2
      have ho := put9_only wr X (.int .i64 0) (.int .i64 0) (.int .i64 0) (.int .i64 0) (.int .u64 0) (.int .u64 0) (.int .u64 0) (.int .i64 0) (.int .i64 0)
      have hy := put9_at (w := wr) (X := X) (.int .i64 0) (.int .i64 0) (.int .i64 0) (.int .i64 0) (.int .u64 0) (.int .u64 0) (.int .u64 0) (.int .i64 0) (.int .i64 0) (fun i hi => HR.out.some i hi)
      have y0 : (put9 wr X (.int .i64 0) (.int .i64 0) (.int .i64 0) (.int .i64 0) (.int .u64 0) (.int .u64 0) (.int .u64 0) (.int .i64 0) (.int .i64 0)).cell? ⟨X, 0, none⟩ = some (.int .i64 0) := hy 0 (by decide)
      have y1 : (put9 wr X (.int .i64 0) (.int .i64 0) (.int .i64 0) (.int .i64 0) (.int .u64 0) (.int .u64 0) (.int .u64 0) (.int .i64 0) (.int .i64 0)).cell? ⟨X, 1, none⟩ = some (.int .i64 0) := hy 1 (by decide)
      have y2 : (put9 wr X (.int .i64 0) (.int .i64 0) (.int .i64 0) (.int .i64 0) (.int .u64 0) (.int .u64 0) (.int .u64 0) (.int .i64 0) (.int .i64 0)).cell? ⟨X, 2, none⟩ = some (.int .i64 0) := hy 2 (by decide)
      have y3 : (put9 wr X (.int .i64 0) (.int .i64 0) (.int .i64 0) (.int .i64 0) (.int .u64 0) (.int .u64 0) (.int .u64 0) (.int .i64 0) (.int .i64 0)).cell? ⟨X, 3, none⟩ = some (.int .i64 0) := hy 3 (by decide)
      have y4 : (put9 wr X (.int .i64 0) (.int .i64 0) (.int .i64 0) (.int .i64 0) (.int .u64 0) (.int .u64 0) (.int .u64 0) (.int .i64 0) (.int .i64 0)).cell? ⟨X, 4, none⟩ = some (.int .u64 0) := hy 4 (by decide)
      have y5 : (put9 wr X (.int .i64 0) (.int .i64 0) (.int .i64 0) (.int .i64 0) (.int .u64 0) (.int .u64 0) (.int .u64 0) (.int .i64 0) (.int .i64 0)).cell? ⟨X, 5, none⟩ = some (.int .u64 0) := hy 5 (by decide)
      have y6 : (put9 wr X (.int .i64 0) (.int .i64 0) (.int .i64 0) (.int .i64 0) (.int .u64 0) (.int .u64 0) (.int .u64 0) (.int .i64 0) (.int .i64 0)).cell? ⟨X, 6, none⟩ = some (.int .u64 0) := hy 6 (by decide)
      have y7 : (put9 wr X (.int .i64 0) (.int .i64 0) (.int .i64 0) (.int .i64 0) (.int .u64 0) (.int .u64 0) (.int .u64 0) (.int .i64 0) (.int .i64 0)).cell? ⟨X, 7, none⟩ = some (.int .i64 0) := hy 7 (by decide)
      have y8 : (put9 wr X (.int .i64 0) (.int .i64 0) (.int .i64 0) (.int .i64 0) (.int .u64 0) (.int .u64 0) (.int .u64 0) (.int .i64 0) (.int .i64 0)).cell? ⟨X, 8, none⟩ = some (.int .i64 0) := hy 8 (by decide)
      change bodyPost _ _ _ _ _ (put9 wr X (.int .i64 0) (.int .i64 0) (.int .i64 0) (.int .i64 0) (.int .u64 0) (.int .u64 0) (.int .u64 0) (.int .i64 0) (.int .i64 0))
      clear hy
      generalize put9 wr X (.int .i64 0) (.int .i64 0) (.int .i64 0) (.int .i64 0) (.int .u64 0) (.int .u64 0) (.int .u64 0) (.int .i64 0) (.int .i64 0) = wF at *
      exact bodyPost_ret (v := .tuple #[.agg #[.int .i64 0, .int .i64 0, .int .i64 0, .int .i64 0, .int .u64 0, .int .u64 0, .int .u64 0, .int .i64 0, .int .i64 0], .bool false]) (by simp [results, Tryd.results42, go_sem, y0, y1, y2, y3, y4, y5, y6, y7, y8]) rfl ⟨rfl, Only.on HR.out.g ho HR.out.xw⟩
    · skip
      clear r0 r1 r2
      go_enter Tryd.func42, Tryd.ntmps42
      go_wp2_with fail
      go_quiet (fail)
      have HR := Lib.hid ((rese_new (World.grownBy.refl w none)).kept (⟨rfl, rfl, rfl, Nat.le_refl _, fun _ _ _ => rfl⟩ : (w.alloc (.cells #[.int .i64 0, .int .i64 0, .int .i64 0, .int .i64 0, .int .u64 0, .int .u64 0, .int .u64 0, .int .i64 0, .int .i64 0] 55)).grownBy ((w.alloc (.cells #[.int .i64 0, .int .i64 0, .int .i64 0, .int .i64 0, .int .u64 0, .int .u64 0, .int .u64 0, .int .i64 0, .int .i64 0] 55)).drewN nq) none))
      have hwX : w.heap.size ≤ w.heap.size := Nat.le_refl _
      generalize (w.alloc (.cells #[.int .i64 0, .int .i64 0, .int .i64 0, .int .i64 0, .int .u64 0, .int .u64 0, .int .u64 0, .int .i64 0, .int .i64 0] 55)).drewN nq = wr at *
      generalize hXX : w.heap.size = X at *
      clear hXX hwX
      have z0 : wr.cell? ⟨X, 0, none⟩ = some (.int .i64 0) := HR.out.r 0 (by decide)
      have zf0 := HR.out.rf 0
      have z1 : wr.cell? ⟨X, 1, none⟩ = some (.int .i64 0) := HR.out.r 1 (by decide)
      have zf1 := HR.out.rf 1
      have z2 : wr.cell? ⟨X, 2, none⟩ = some (.int .i64 0) := HR.out.r 2 (by decide)
      have zf2 := HR.out.rf 2
      have z3 : wr.cell? ⟨X, 3, none⟩ = some (.int .i64 0) := HR.out.r 3 (by decide)
      have zf3 := HR.out.rf 3
      have z4 : wr.cell? ⟨X, 4, none⟩ = some (.int .u64 0) := HR.out.r 4 (by decide)
      have zf4 := HR.out.rf 4
      have z5 : wr.cell? ⟨X, 5, none⟩ = some (.int .u64 0) := HR.out.r 5 (by decide)
      have zf5 := HR.out.rf 5
      have z6 : wr.cell? ⟨X, 6, none⟩ = some (.int .u64 0) := HR.out.r 6 (by decide)
      have zf6 := HR.out.rf 6
      have z7 : wr.cell? ⟨X, 7, none⟩ = some (.int .i64 0) := HR.out.r 7 (by decide)
      have zf7 := HR.out.rf 7
      have z8 : wr.cell? ⟨X, 8, none⟩ = some (.int .i64 0) := HR.out.r 8 (by decide)
      have zf8 := HR.out.rf 8
      go_wp2
      have ho := put9_only wr X (.int .i64 0) (.int .i64 0) (.int .i64 0) (.int .i64 0) (.int .u64 0) (.int .u64 0) (.int .u64 0) (.int .i64 0) (.int .i64 0)
      have hy := put9_at (w := wr) (X := X) (.int .i64 0) (.int .i64 0) (.int .i64 0) (.int .i64 0) (.int .u64 0) (.int .u64 0) (.int .u64 0) (.int .i64 0) (.int .i64 0) (fun i hi => HR.out.some i hi)
      have y0 : (put9 wr X (.int .i64 0) (.int .i64 0) (.int .i64 0) (.int .i64 0) (.int .u64 0) (.int .u64 0) (.int .u64 0) (.int .i64 0) (.int .i64 0)).cell? ⟨X, 0, none⟩ = some (.int .i64 0) := hy 0 (by decide)
      have y1 : (put9 wr X (.int .i64 0) (.int .i64 0) (.int .i64 0) (.int .i64 0) (.int .u64 0) (.int .u64 0) (.int .u64 0) (.int .i64 0) (.int .i64 0)).cell? ⟨X, 1, none⟩ = some (.int .i64 0) := hy 1 (by decide)
      have y2 : (put9 wr X (.int .i64 0) (.int .i64 0) (.int .i64 0) (.int .i64 0) (.int .u64 0) (.int .u64 0) (.int .u64 0) (.int .i64 0) (.int .i64 0)).cell? ⟨X, 2, none⟩ = some (.int .i64 0) := hy 2 (by decide)
      have y3 : (put9 wr X (.int .i64 0) (.int .i64 0) (.int .i64 0) (.int .i64 0) (.int .u64 0) (.int .u64 0) (.int .u64 0) (.int .i64 0) (.int .i64 0)).cell? ⟨X, 3, none⟩ = some (.int .i64 0) := hy 3 (by decide)
      have y4 : (put9 wr X (.int .i64 0) (.int .i64 0) (.int .i64 0) (.int .i64 0) (.int .u64 0) (.int .u64 0) (.int .u64 0) (.int .i64 0) (.int .i64 0)).cell? ⟨X, 4, none⟩ = some (.int .u64 0) := hy 4 (by decide)
      have y5 : (put9 wr X (.int .i64 0) (.int .i64 0) (.int .i64 0) (.int .i64 0) (.int .u64 0) (.int .u64 0) (.int .u64 0) (.int .i64 0) (.int .i64 0)).cell? ⟨X, 5, none⟩ = some (.int .u64 0) := hy 5 (by decide)
      have y6 : (put9 wr X (.int .i64 0) (.int .i64 0) (.int .i64 0) (.int .i64 0) (.int .u64 0) (.int .u64 0) (.int .u64 0) (.int .i64 0) (.int .i64 0)).cell? ⟨X, 6, none⟩ = some (.int .u64 0) := hy 6 (by decide)
      have y7 : (put9 wr X (.int .i64 0) (.int .i64 0) (.int .i64 0) (.int .i64 0) (.int .u64 0) (.int .u64 0) (.int .u64 0) (.int .i64 0) (.int .i64 0)).cell? ⟨X, 7, none⟩ = some (.int .i64 0) := hy 7 (by decide)
      have y8 : (put9 wr X (.int .i64 0) (.int .i64 0) (.int .i64 0) (.int .i64 0) (.int .u64 0) (.int .u64 0) (.int .u64 0) (.int .i64 0) (.int .i64 0)).cell? ⟨X, 8, none⟩ = some (.int .i64 0) := hy 8 (by decide)
      change bodyPost _ _ _ _ _ (put9 wr X (.int .i64 0) (.int .i64 0) (.int .i64 0) (.int .i64 0) (.int .u64 0) (.int .u64 0) (.int .u64 0) (.int .i64 0) (.int .i64 0))
      clear hy
      generalize put9 wr X (.int .i64 0) (.int .i64 0) (.int .i64 0) (.int .i64 0) (.int .u64 0) (.int .u64 0) (.int .u64 0) (.int .i64 0) (.int .i64 0) = wF at *
      exact bodyPost_ret (v := .tuple #[.agg #[.int .i64 0, .int .i64 0, .int .i64 0, .int .i64 0, .int .u64 0, .int .u64 0, .int .u64 0, .int .i64 0, .int .i64 0], .bool false]) (by simp [results, Tryd.results42, go_sem, y0, y1, y2, y3, y4, y5, y6, y7, y8]) rfl ⟨rfl, Only.on HR.out.g ho HR.out.xw⟩
  · rcases hf with rfl | rfl | rfl | ⟨g0, g1, g2⟩
    · skip
      have r := r0 rfl
      clear r0 r1 r2
      go_enter Tryd.func42, Tryd.ntmps42
      go_wp2_with fail
      go_quiet (fail)
      have HR := Lib.hid ((rese_new (World.grownBy.refl w none)).kept (⟨rfl, rfl, rfl, Nat.le_refl _, fun _ _ _ => rfl⟩ : (w.alloc (.cells #[.int .i64 0, .int .i64 0, .int .i64 0, .int .i64 0, .int .u64 0, .int .u64 0, .int .u64 0, .int .i64 0, .int .i64 0] 55)).grownBy ((w.alloc (.cells #[.int .i64 0, .int .i64 0, .int .i64 0, .int .i64 0, .int .u64 0, .int .u64 0, .int .u64 0, .int .i64 0, .int .i64 0] 55)).drewN nq) none))
      have hwX : w.heap.size ≤ w.heap.size := Nat.le_refl _
      generalize (w.alloc (.cells #[.int .i64 0, .int .i64 0, .int .i64 0, .int .i64 0, .int .u64 0, .int .u64 0, .int .u64 0, .int .i64 0, .int .i64 0] 55)).drewN nq = wr at *
      generalize hXX : w.heap.size = X at *
      clear hXX hwX
      have z0 : wr.cell? ⟨X, 0, none⟩ = some (.int .i64 0) := HR.out.r 0 (by decide)
      have zf0 := HR.out.rf 0
      have z1 : wr.cell? ⟨X, 1, none⟩ = some (.int .i64 0) := HR.out.r 1 (by decide)
      have zf1 := HR.out.rf 1
      have z2 : wr.cell? ⟨X, 2, none⟩ = some (.int .i64 0) := HR.out.r 2 (by decide)
      have zf2 := HR.out.rf 2
      have z3 : wr.cell? ⟨X, 3, none⟩ = some (.int .i64 0) := HR.out.r 3 (by decide)
      have zf3 := HR.out.rf 3
      have z4 : wr.cell? ⟨X, 4, none⟩ = some (.int .u64 0) := HR.out.r 4 (by decide)
      have zf4 := HR.out.rf 4
      have z5 : wr.cell? ⟨X, 5, none⟩ = some (.int .u64 0) := HR.out.r 5 (by decide)
      have zf5 := HR.out.rf 5
      have z6 : wr.cell? ⟨X, 6, none⟩ = some (.int .u64 0) := HR.out.r 6 (by decide)
      have zf6 := HR.out.rf 6
      have z7 : wr.cell? ⟨X, 7, none⟩ = some (.int .i64 0) := HR.out.r 7 (by decide)
      have zf7 := HR.out.rf 7
      have z8 : wr.cell? ⟨X, 8, none⟩ = some (.int .i64 0) := HR.out.r 8 (by decide)
      have zf8 := HR.out.rf 8
      go_wp2
      have ho := put9_only wr X (.int .i64 0) (.int .i64 0) (.int .i64 0) (.int .i64 0) (.int .u64 0) (.int .u64 0) (.int .u64 0) (.int .i64 0) (.int .i64 0)
      have hy := put9_at (w := wr) (X := X) (.int .i64 0) (.int .i64 0) (.int .i64 0) (.int .i64 0) (.int .u64 0) (.int .u64 0) (.int .u64 0) (.int .i64 0) (.int .i64 0) (fun i hi => HR.out.some i hi)
      have y0 : (put9 wr X (.int .i64 0) (.int .i64 0) (.int .i64 0) (.int .i64 0) (.int .u64 0) (.int .u64 0) (.int .u64 0) (.int .i64 0) (.int .i64 0)).cell? ⟨X, 0, none⟩ = some (.int .i64 0) := hy 0 (by decide)
      have y1 : (put9 wr X (.int .i64 0) (.int .i64 0) (.int .i64 0) (.int .i64 0) (.int .u64 0) (.int .u64 0) (.int .u64 0) (.int .i64 0) (.int .i64 0)).cell? ⟨X, 1, none⟩ = some (.int .i64 0) := hy 1 (by decide)
      have y2 : (put9 wr X (.int .i64 0) (.int .i64 0) (.int .i64 0) (.int .i64 0) (.int .u64 0) (.int .u64 0) (.int .u64 0) (.int .i64 0) (.int .i64 0)).cell? ⟨X, 2, none⟩ = some (.int .i64 0) := hy 2 (by decide)
      have y3 : (put9 wr X (.int .i64 0) (.int .i64 0) (.int .i64 0) (.int .i64 0) (.int .u64 0) (.int .u64 0) (.int .u64 0) (.int .i64 0) (.int .i64 0)).cell? ⟨X, 3, none⟩ = some (.int .i64 0) := hy 3 (by decide)
      have y4 : (put9 wr X (.int .i64 0) (.int .i64 0) (.int .i64 0) (.int .i64 0) (.int .u64 0) (.int .u64 0) (.int .u64 0) (.int .i64 0) (.int .i64 0)).cell? ⟨X, 4, none⟩ = some (.int .u64 0) := hy 4 (by decide)
      have y5 : (put9 wr X (.int .i64 0) (.int .i64 0) (.int .i64 0) (.int .i64 0) (.int .u64 0) (.int .u64 0) (.int .u64 0) (.int .i64 0) (.int .i64 0)).cell? ⟨X, 5, none⟩ = some (.int .u64 0) := hy 5 (by decide)
      have y6 : (put9 wr X (.int .i64 0) (.int .i64 0) (.int .i64 0) (.int .i64 0) (.int .u64 0) (.int .u64 0) (.int .u64 0) (.int .i64 0) (.int .i64 0)).cell? ⟨X, 6, none⟩ = some (.int .u64 0) := hy 6 (by decide)
      have y7 : (put9 wr X (.int .i64 0) (.int .i64 0) (.int .i64 0) (.int .i64 0) (.int .u64 0) (.int .u64 0) (.int .u64 0) (.int .i64 0) (.int .i64 0)).cell? ⟨X, 7, none⟩ = some (.int .i64 0) := hy 7 (by decide)
      have y8 : (put9 wr X (.int .i64 0) (.int .i64 0) (.int .i64 0) (.int .i64 0) (.int .u64 0) (.int .u64 0) (.int .u64 0) (.int .i64 0) (.int .i64 0)).cell? ⟨X, 8, none⟩ = some (.int .i64 0) := hy 8 (by decide)
      change bodyPost _ _ _ _ _ (put9 wr X (.int .i64 0) (.int .i64 0) (.int .i64 0) (.int .i64 0) (.int .u64 0) (.int .u64 0) (.int .u64 0) (.int .i64 0) (.int .i64 0))
      clear hy
      generalize put9 wr X (.int .i64 0) (.int .i64 0) (.int .i64 0) (.int .i64 0) (.int .u64 0) (.int .u64 0) (.int .u64 0) (.int .i64 0) (.int .i64 0) = wF at *
      exact bodyPost_ret (v := .tuple #[.agg #[.int .i64 0, .int .i64 0, .int .i64 0, .int .i64 0, .int .u64 0, .int .u64 0, .int .u64 0, .int .i64 0, .int .i64 0], .bool false]) (by simp [results, Tryd.results42, go_sem, y0, y1, y2, y3, y4, y5, y6, y7, y8]) rfl ⟨rfl, Only.on HR.out.g ho HR.out.xw⟩
    · skip
      have r := r1 rfl
      clear r0 r1 r2
      go_enter Tryd.func42, Tryd.ntmps42
      go_wp2_with fail
      go_quiet (fail)
      have HR := Lib.hid ((rese_new (World.grownBy.refl w none)).kept (⟨rfl, rfl, rfl, Nat.le_refl _, fun _ _ _ => rfl⟩ : (w.alloc (.cells #[.int .i64 0, .int .i64 0, .int .i64 0, .int .i64 0, .int .u64 0, .int .u64 0, .int .u64 0, .int .i64 0, .int .i64 0] 55)).grownBy ((w.alloc (.cells #[.int .i64 0, .int .i64 0, .int .i64 0, .int .i64 0, .int .u64 0, .int .u64 0, .int .u64 0, .int .i64 0, .int .i64 0] 55)).drewN nq) none))
      have hwX : w.heap.size ≤ w.heap.size := Nat.le_refl _
      generalize (w.alloc (.cells #[.int .i64 0, .int .i64 0, .int .i64 0, .int .i64 0, .int .u64 0, .int .u64 0, .int .u64 0, .int .i64 0, .int .i64 0] 55)).drewN nq = wr at *
      generalize hXX : w.heap.size = X at *
      clear hXX hwX
      have z0 : wr.cell? ⟨X, 0, none⟩ = some (.int .i64 0) := HR.out.r 0 (by decide)
      have zf0 := HR.out.rf 0
      have z1 : wr.cell? ⟨X, 1, none⟩ = some (.int .i64 0) := HR.out.r 1 (by decide)
      have zf1 := HR.out.rf 1
      have z2 : wr.cell? ⟨X, 2, none⟩ = some (.int .i64 0) := HR.out.r 2 (by decide)
      have zf2 := HR.out.rf 2
      have z3 : wr.cell? ⟨X, 3, none⟩ = some (.int .i64 0) := HR.out.r 3 (by decide)
      have zf3 := HR.out.rf 3
      have z4 : wr.cell? ⟨X, 4, none⟩ = some (.int .u64 0) := HR.out.r 4 (by decide)
      have zf4 := HR.out.rf 4
      have z5 : wr.cell? ⟨X, 5, none⟩ = some (.int .u64 0) := HR.out.r 5 (by decide)
      have zf5 := HR.out.rf 5
      have z6 : wr.cell? ⟨X, 6, none⟩ = some (.int .u64 0) := HR.out.r 6 (by decide)
      have zf6 := HR.out.rf 6
      have z7 : wr.cell? ⟨X, 7, none⟩ = some (.int .i64 0) := HR.out.r 7 (by decide)
      have zf7 := HR.out.rf 7
      have z8 : wr.cell? ⟨X, 8, none⟩ = some (.int .i64 0) := HR.out.r 8 (by decide)
      have zf8 := HR.out.rf 8
      go_wp2
      have ho := put9_only wr X (.int .i64 0) (.int .i64 0) (.int .i64 0) (.int .i64 0) (.int .u64 0) (.int .u64 0) (.int .u64 0) (.int .i64 0) (.int .i64 0)
      have hy := put9_at (w := wr) (X := X) (.int .i64 0) (.int .i64 0) (.int .i64 0) (.int .i64 0) (.int .u64 0) (.int .u64 0) (.int .u64 0) (.int .i64 0) (.int .i64 0) (fun i hi => HR.out.some i hi)
      have y0 : (put9 wr X (.int .i64 0) (.int .i64 0) (.int .i64 0) (.int .i64 0) (.int .u64 0) (.int .u64 0) (.int .u64 0) (.int .i64 0) (.int .i64 0)).cell? ⟨X, 0, none⟩ = some (.int .i64 0) := hy 0 (by decide)
      have y1 : (put9 wr X (.int .i64 0) (.int .i64 0) (.int .i64 0) (.int .i64 0) (.int .u64 0) (.int .u64 0) (.int .u64 0) (.int .i64 0) (.int .i64 0)).cell? ⟨X, 1, none⟩ = some (.int .i64 0) := hy 1 (by decide)
      have y2 : (put9 wr X (.int .i64 0) (.int .i64 0) (.int .i64 0) (.int .i64 0) (.int .u64 0) (.int .u64 0) (.int .u64 0) (.int .i64 0) (.int .i64 0)).cell? ⟨X, 2, none⟩ = some (.int .i64 0) := hy 2 (by decide)
      have y3 : (put9 wr X (.int .i64 0) (.int .i64 0) (.int .i64 0) (.int .i64 0) (.int .u64 0) (.int .u64 0) (.int .u64 0) (.int .i64 0) (.int .i64 0)).cell? ⟨X, 3, none⟩ = some (.int .i64 0) := hy 3 (by decide)
      have y4 : (put9 wr X (.int .i64 0) (.int .i64 0) (.int .i64 0) (.int .i64 0) (.int .u64 0) (.int .u64 0) (.int .u64 0) (.int .i64 0) (.int .i64 0)).cell? ⟨X, 4, none⟩ = some (.int .u64 0) := hy 4 (by decide)
      have y5 : (put9 wr X (.int .i64 0) (.int .i64 0) (.int .i64 0) (.int .i64 0) (.int .u64 0) (.int .u64 0) (.int .u64 0) (.int .i64 0) (.int .i64 0)).cell? ⟨X, 5, none⟩ = some (.int .u64 0) := hy 5 (by decide)
      have y6 : (put9 wr X (.int .i64 0) (.int .i64 0) (.int .i64 0) (.int .i64 0) (.int .u64 0) (.int .u64 0) (.int .u64 0) (.int .i64 0) (.int .i64 0)).cell? ⟨X, 6, none⟩ = some (.int .u64 0) := hy 6 (by decide)
      have y7 : (put9 wr X (.int .i64 0) (.int .i64 0) (.int .i64 0) (.int .i64 0) (.int .u64 0) (.int .u64 0) (.int .u64 0) (.int .i64 0) (.int .i64 0)).cell? ⟨X, 7, none⟩ = some (.int .i64 0) := hy 7 (by decide)
      have y8 : (put9 wr X (.int .i64 0) (.int .i64 0) (.int .i64 0) (.int .i64 0) (.int .u64 0) (.int .u64 0) (.int .u64 0) (.int .i64 0) (.int .i64 0)).cell? ⟨X, 8, none⟩ = some (.int .i64 0) := hy 8 (by decide)
      change bodyPost _ _ _ _ _ (put9 wr X (.int .i64 0) (.int .i64 0) (.int .i64 0) (.int .i64 0) (.int .u64 0) (.int .u64 0) (.int .u64 0) (.int .i64 0) (.int .i64 0))
      clear hy
      generalize put9 wr X (.int .i64 0) (.int .i64 0) (.int .i64 0) (.int .i64 0) (.int .u64 0) (.int .u64 0) (.int .u64 0) (.int .i64 0) (.int .i64 0) = wF at *
      exact bodyPost_ret (v := .tuple #[.agg #[.int .i64 0, .int .i64 0, .int .i64 0, .int .i64 0, .int .u64 0, .int .u64 0, .int .u64 0, .int .i64 0, .int .i64 0], .bool false]) (by simp [results, Tryd.results42, go_sem, y0, y1, y2, y3, y4, y5, y6, y7, y8]) rfl ⟨rfl, Only.on HR.out.g ho HR.out.xw⟩
    · skip
      have r := r2 rfl
      clear r0 r1 r2
      go_enter Tryd.func42, Tryd.ntmps42
      go_wp2_with fail
      go_quiet (fail)
      have HR := Lib.hid ((rese_new (World.grownBy.refl w none)).kept (⟨rfl, rfl, rfl, Nat.le_refl _, fun _ _ _ => rfl⟩ : (w.alloc (.cells #[.int .i64 0, .int .i64 0, .int .i64 0, .int .i64 0, .int .u64 0, .int .u64 0, .int .u64 0, .int .i64 0, .int .i64 0] 55)).grownBy ((w.alloc (.cells #[.int .i64 0, .int .i64 0, .int .i64 0, .int .i64 0, .int .u64 0, .int .u64 0, .int .u64 0, .int .i64 0, .int .i64 0] 55)).drewN nq) none))
      have hwX : w.heap.size ≤ w.heap.size := Nat.le_refl _
      generalize (w.alloc (.cells #[.int .i64 0, .int .i64 0, .int .i64 0, .int .i64 0, .int .u64 0, .int .u64 0, .int .u64 0, .int .i64 0, .int .i64 0] 55)).drewN nq = wr at *
      generalize hXX : w.heap.size = X at *
      clear hXX hwX
      have z0 : wr.cell? ⟨X, 0, none⟩ = some (.int .i64 0) := HR.out.r 0 (by decide)
      have zf0 := HR.out.rf 0
      have z1 : wr.cell? ⟨X, 1, none⟩ = some (.int .i64 0) := HR.out.r 1 (by decide)
      have zf1 := HR.out.rf 1
      have z2 : wr.cell? ⟨X, 2, none⟩ = some (.int .i64 0) := HR.out.r 2 (by decide)
      have zf2 := HR.out.rf 2
      have z3 : wr.cell? ⟨X, 3, none⟩ = some (.int .i64 0) := HR.out.r 3 (by decide)
      have zf3 := HR.out.rf 3
      have z4 : wr.cell? ⟨X, 4, none⟩ = some (.int .u64 0) := HR.out.r 4 (by decide)
      have zf4 := HR.out.rf 4
      have z5 : wr.cell? ⟨X, 5, none⟩ = some (.int .u64 0) := HR.out.r 5 (by decide)
      have zf5 := HR.out.rf 5
      have z6 : wr.cell? ⟨X, 6, none⟩ = some (.int .u64 0) := HR.out.r 6 (by decide)
      have zf6 := HR.out.rf 6
      have z7 : wr.cell? ⟨X, 7, none⟩ = some (.int .i64 0) := HR.out.r 7 (by decide)
      have zf7 := HR.out.rf 7
      have z8 : wr.cell? ⟨X, 8, none⟩ = some (.int .i64 0) := HR.out.r 8 (by decide)
      have zf8 := HR.out.rf 8
      go_wp2
      have ho := put9_only wr X (.int .i64 0) (.int .i64 0) (.int .i64 0) (.int .i64 0) (.int .u64 0) (.int .u64 0) (.int .u64 0) (.int .i64 0) (.int .i64 0)
      have hy := put9_at (w := wr) (X := X) (.int .i64 0) (.int .i64 0) (.int .i64 0) (.int .i64 0) (.int .u64 0) (.int .u64 0) (.int .u64 0) (.int .i64 0) (.int .i64 0) (fun i hi => HR.out.some i hi)
      have y0 : (put9 wr X (.int .i64 0) (.int .i64 0) (.int .i64 0) (.int .i64 0) (.int .u64 0) (.int .u64 0) (.int .u64 0) (.int .i64 0) (.int .i64 0)).cell? ⟨X, 0, none⟩ = some (.int .i64 0) := hy 0 (by decide)
      have y1 : (put9 wr X (.int .i64 0) (.int .i64 0) (.int .i64 0) (.int .i64 0) (.int .u64 0) (.int .u64 0) (.int .u64 0) (.int .i64 0) (.int .i64 0)).cell? ⟨X, 1, none⟩ = some (.int .i64 0) := hy 1 (by decide)
      have y2 : (put9 wr X (.int .i64 0) (.int .i64 0) (.int .i64 0) (.int .i64 0) (.int .u64 0) (.int .u64 0) (.int .u64 0) (.int .i64 0) (.int .i64 0)).cell? ⟨X, 2, none⟩ = some (.int .i64 0) := hy 2 (by decide)
      have y3 : (put9 wr X (.int .i64 0) (.int .i64 0) (.int .i64 0) (.int .i64 0) (.int .u64 0) (.int .u64 0) (.int .u64 0) (.int .i64 0) (.int .i64 0)).cell? ⟨X, 3, none⟩ = some (.int .i64 0) := hy 3 (by decide)
      have y4 : (put9 wr X (.int .i64 0) (.int .i64 0) (.int .i64 0) (.int .i64 0) (.int .u64 0) (.int .u64 0) (.int .u64 0) (.int .i64 0) (.int .i64 0)).cell? ⟨X, 4, none⟩ = some (.int .u64 0) := hy 4 (by decide)
      have y5 : (put9 wr X (.int .i64 0) (.int .i64 0) (.int .i64 0) (.int .i64 0) (.int .u64 0) (.int .u64 0) (.int .u64 0) (.int .i64 0) (.int .i64 0)).cell? ⟨X, 5, none⟩ = some (.int .u64 0) := hy 5 (by decide)
      have y6 : (put9 wr X (.int .i64 0) (.int .i64 0) (.int .i64 0) (.int .i64 0) (.int .u64 0) (.int .u64 0) (.int .u64 0) (.int .i64 0) (.int .i64 0)).cell? ⟨X, 6, none⟩ = some (.int .u64 0) := hy 6 (by decide)
      have y7 : (put9 wr X (.int .i64 0) (.int .i64 0) (.int .i64 0) (.int .i64 0) (.int .u64 0) (.int .u64 0) (.int .u64 0) (.int .i64 0) (.int .i64 0)).cell? ⟨X, 7, none⟩ = some (.int .i64 0) := hy 7 (by decide)
      have y8 : (put9 wr X (.int .i64 0) (.int .i64 0) (.int .i64 0) (.int .i64 0) (.int .u64 0) (.int .u64 0) (.int .u64 0) (.int .i64 0) (.int .i64 0)).cell? ⟨X, 8, none⟩ = some (.int .i64 0) := hy 8 (by decide)
      change bodyPost _ _ _ _ _ (put9 wr X (.int .i64 0) (.int .i64 0) (.int .i64 0) (.int .i64 0) (.int .u64 0) (.int .u64 0) (.int .u64 0) (.int .i64 0) (.int .i64 0))
      clear hy
      generalize put9 wr X (.int .i64 0) (.int .i64 0) (.int .i64 0) (.int .i64 0) (.int .u64 0) (.int .u64 0) (.int .u64 0) (.int .i64 0) (.int .i64 0) = wF at *
      exact bodyPost_ret (v := .tuple #[.agg #[.int .i64 0, .int .i64 0, .int .i64 0, .int .i64 0, .int .u64 0, .int .u64 0, .int .u64 0, .int .i64 0, .int .i64 0], .bool false]) (by simp [results, Tryd.results42, go_sem, y0, y1, y2, y3, y4, y5, y6, y7, y8]) rfl ⟨rfl, Only.on HR.out.g ho HR.out.xw⟩
    · skip
      clear r0 r1 r2
      go_enter Tryd.func42, Tryd.ntmps42
      go_wp2_with fail
      go_quiet (fail)
      have HR := Lib.hid ((rese_new (World.grownBy.refl w none)).kept (⟨rfl, rfl, rfl, Nat.le_refl _, fun _ _ _ => rfl⟩ : (w.alloc (.cells #[.int .i64 0, .int .i64 0, .int .i64 0, .int .i64 0, .int .u64 0, .int .u64 0, .int .u64 0, .int .i64 0, .int .i64 0] 55)).grownBy ((w.alloc (.cells #[.int .i64 0, .int .i64 0, .int .i64 0, .int .i64 0, .int .u64 0, .int .u64 0, .int .u64 0, .int .i64 0, .int .i64 0] 55)).drewN nq) none))
      have hwX : w.heap.size ≤ w.heap.size := Nat.le_refl _
      generalize (w.alloc (.cells #[.int .i64 0, .int .i64 0, .int .i64 0, .int .i64 0, .int .u64 0, .int .u64 0, .int .u64 0, .int .i64 0, .int .i64 0] 55)).drewN nq = wr at *
      generalize hXX : w.heap.size = X at *
      clear hXX hwX
      have z0 : wr.cell? ⟨X, 0, none⟩ = some (.int .i64 0) := HR.out.r 0 (by decide)
      have zf0 := HR.out.rf 0
      have z1 : wr.cell? ⟨X, 1, none⟩ = some (.int .i64 0) := HR.out.r 1 (by decide)
      have zf1 := HR.out.rf 1
      have z2 : wr.cell? ⟨X, 2, none⟩ = some (.int .i64 0) := HR.out.r 2 (by decide)
      have zf2 := HR.out.rf 2
      have z3 : wr.cell? ⟨X, 3, none⟩ = some (.int .i64 0) := HR.out.r 3 (by decide)
      have zf3 := HR.out.rf 3
      have z4 : wr.cell? ⟨X, 4, none⟩ = some (.int .u64 0) := HR.out.r 4 (by decide)
      have zf4 := HR.out.rf 4
      have z5 : wr.cell? ⟨X, 5, none⟩ = some (.int .u64 0) := HR.out.r 5 (by decide)
      have zf5 := HR.out.rf 5
      have z6 : wr.cell? ⟨X, 6, none⟩ = some (.int .u64 0) := HR.out.r 6 (by decide)
      have zf6 := HR.out.rf 6
      have z7 : wr.cell? ⟨X, 7, none⟩ = some (.int .i64 0) := HR.out.r 7 (by decide)
      have zf7 := HR.out.rf 7
      have z8 : wr.cell? ⟨X, 8, none⟩ = some (.int .i64 0) := HR.out.r 8 (by decide)
      have zf8 := HR.out.rf 8
      go_wp2
      have ho := put9_only wr X (.int .i64 0) (.int .i64 0) (.int .i64 0) (.int .i64 0) (.int .u64 0) (.int .u64 0) (.int .u64 0) (.int .i64 0) (.int .i64 0)
      have hy := put9_at (w := wr) (X := X) (.int .i64 0) (.int .i64 0) (.int .i64 0) (.int .i64 0) (.int .u64 0) (.int .u64 0) (.int .u64 0) (.int .i64 0) (.int .i64 0) (fun i hi => HR.out.some i hi)
      have y0 : (put9 wr X (.int .i64 0) (.int .i64 0) (.int .i64 0) (.int .i64 0) (.int .u64 0) (.int .u64 0) (.int .u64 0) (.int .i64 0) (.int .i64 0)).cell? ⟨X, 0, none⟩ = some (.int .i64 0) := hy 0 (by decide)
      have y1 : (put9 wr X (.int .i64 0) (.int .i64 0) (.int .i64 0) (.int .i64 0) (.int .u64 0) (.int .u64 0) (.int .u64 0) (.int .i64 0) (.int .i64 0)).cell? ⟨X, 1, none⟩ = some (.int .i64 0) := hy 1 (by decide)
      have y2 : (put9 wr X (.int .i64 0) (.int .i64 0) (.int .i64 0) (.int .i64 0) (.int .u64 0) (.int .u64 0) (.int .u64 0) (.int .i64 0) (.int .i64 0)).cell? ⟨X, 2, none⟩ = some (.int .i64 0) := hy 2 (by decide)
      have y3 : (put9 wr X (.int .i64 0) (.int .i64 0) (.int .i64 0) (.int .i64 0) (.int .u64 0) (.int .u64 0) (.int .u64 0) (.int .i64 0) (.int .i64 0)).cell? ⟨X, 3, none⟩ = some (.int .i64 0) := hy 3 (by decide)
      have y4 : (put9 wr X (.int .i64 0) (.int .i64 0) (.int .i64 0) (.int .i64 0) (.int .u64 0) (.int .u64 0) (.int .u64 0) (.int .i64 0) (.int .i64 0)).cell? ⟨X, 4, none⟩ = some (.int .u64 0) := hy 4 (by decide)
      have y5 : (put9 wr X (.int .i64 0) (.int .i64 0) (.int .i64 0) (.int .i64 0) (.int .u64 0) (.int .u64 0) (.int .u64 0) (.int .i64 0) (.int .i64 0)).cell? ⟨X, 5, none⟩ = some (.int .u64 0) := hy 5 (by decide)
      have y6 : (put9 wr X (.int .i64 0) (.int .i64 0) (.int .i64 0) (.int .i64 0) (.int .u64 0) (.int .u64 0) (.int .u64 0) (.int .i64 0) (.int .i64 0)).cell? ⟨X, 6, none⟩ = some (.int .u64 0) := hy 6 (by decide)
      have y7 : (put9 wr X (.int .i64 0) (.int .i64 0) (.int .i64 0) (.int .i64 0) (.int .u64 0) (.int .u64 0) (.int .u64 0) (.int .i64 0) (.int .i64 0)).cell? ⟨X, 7, none⟩ = some (.int .i64 0) := hy 7 (by decide)
      have y8 : (put9 wr X (.int .i64 0) (.int .i64 0) (.int .i64 0) (.int .i64 0) (.int .u64 0) (.int .u64 0) (.int .u64 0) (.int .i64 0) (.int .i64 0)).cell? ⟨X, 8, none⟩ = some (.int .i64 0) := hy 8 (by decide)
      change bodyPost _ _ _ _ _ (put9 wr X (.int .i64 0) (.int .i64 0) (.int .i64 0) (.int .i64 0) (.int .u64 0) (.int .u64 0) (.int .u64 0) (.int .i64 0) (.int .i64 0))
      clear hy
      generalize put9 wr X (.int .i64 0) (.int .i64 0) (.int .i64 0) (.int .i64 0) (.int .u64 0) (.int .u64 0) (.int .u64 0) (.int .i64 0) (.int .i64 0) = wF at *
      exact bodyPost_ret (v := .tuple #[.agg #[.int .i64 0, .int .i64 0, .int .i64 0, .int .i64 0, .int .u64 0, .int .u64 0, .int .u64 0, .int .i64 0, .int .i64 0], .bool false]) (by simp [results, Tryd.results42, go_sem, y0, y1, y2, y3, y4, y5, y6, y7, y8]) rfl ⟨rfl, Only.on HR.out.g ho HR.out.xw⟩

set_option maxHeartbeats 4000000 in
theorem wparse_t {w : World} {v : Value} {F : List Nat} (H : ReadsB w v F) (hl : F.length = 3) (h0 : F.getD 0 0 = 0) :
    Calls Tryd.prog 42 #[v] w fun r w' => r = .returned (.tuple #[(En.mk 0 0 (F.getD 1 0 + 256 * F.getD 2 0 : Nat) zC 0 0).val, .bool true]) ∧ w.grownBy w' none := by
  obtain ⟨a0, cap, rfl, hx1, hx2, hx3, hx4⟩ := H
  obtain ⟨b, o, rfl, hb, hc⟩ := hx4 (by omega)
  have HH : Hid (ReadsB w (.slice (some ⟨b, o, none⟩) F.length cap) F) := Lib.hid ⟨_, cap, rfl, hx1, hx2, hx3, hx4⟩
  have hcap : F.length ≤ cap := hx1
  clear hx1 hx2 hx4 hc hb
  have k1 := World.grownBy_alloc w (.cells #[.int .i64 0, .int .i64 0, .int .i64 0, .int .i64 0, .int .u64 0, .int .u64 0, .int .u64 0, .int .i64 0, .int .i64 0] 55) none
  have c0 := ((HH.out.grown k1).get 0 (by omega)).1
  have b0 := ((HH.out.grown k1).get 0 (by omega)).2.1
  have c1 := ((HH.out.grown k1).get 1 (by omega)).1
  have b1 := ((HH.out.grown k1).get 1 (by omega)).2.1
  have c2 := ((HH.out.grown k1).get 2 (by omega)).1
  have b2 := ((HH.out.grown k1).get 2 (by omega)).2.1
  have hb0 := ((HH.out.grown k1).get 0 (by omega)).2.2
  have hbw0 := (HH.out.get 0 (by omega)).2.2
  rw [Nat.add_zero, h0] at c0
  rw [show o + 2 = o + 1 + 1 by omega] at c2
  generalize F.getD 1 0 = f1 at *
  generalize F.getD 2 0 = f2 at *
  rw [hl]
  have hc1 : ¬ cap = 1 := by omega
  have hc2 : ¬ cap = 2 := by omega
  have hw1 : IntKind.i64.wrap ((f1 : Nat) : Int) = ((f1 : Nat) : Int) := by rw [IntKind.wrap_i64]; omega
  have hw2 : IntKind.i64.wrap ((f2 : Nat) : Int) = ((f2 : Nat) : Int) := by rw [IntKind.wrap_i64]; omega
  have hw3 : IntKind.i64.wrap (((f2 : Nat) : Int) * 256) = ((f2 : Nat) : Int) * 256 := by rw [IntKind.wrap_i64]; omega
  have hor := orI64 f1 f2 b1 b2
  have C1 := Lib.hid (fun wz => wtick wz ((f1 + 256 * f2 : Nat) : Int))
  unfold En.val zC
  simp only
  obtain ⟨nn, hnn⟩ : ∃ nn : Int, nn = ((f1 + 256 * f2 : Nat) : Int) := ⟨_, rfl⟩
  rw [← hnn] at hor C1 ⊢
  clear HH h0 b0 hnn
  go_enter Tryd.func42, Tryd.ntmps42
  go_wp2_with fail
  go_quiet (fail)
  have HR := Lib.hid ((rese_new (World.grownBy.refl w none)).kept (⟨rfl, rfl, rfl, Nat.le_refl _, fun _ _ _ => rfl⟩ : (w.alloc (.cells #[.int .i64 0, .int .i64 0, .int .i64 0, .int .i64 0, .int .u64 0, .int .u64 0, .int .u64 0, .int .i64 0, .int .i64 0] 55)).grownBy ((w.alloc (.cells #[.int .i64 0, .int .i64 0, .int .i64 0, .int .i64 0, .int .u64 0, .int .u64 0, .int .u64 0, .int .i64 0, .int .i64 0] 55)).drewN nq) none))
  have hwX : w.heap.size ≤ w.heap.size := Nat.le_refl _
  have c1' : ((w.alloc (.cells #[.int .i64 0, .int .i64 0, .int .i64 0, .int .i64 0, .int .u64 0, .int .u64 0, .int .u64 0, .int .i64 0, .int .i64 0] 55)).drewN nq).cell? ⟨b, o + 1, none⟩ = some (.int .u8 (f1 : Int)) := c1
  have c2' : ((w.alloc (.cells #[.int .i64 0, .int .i64 0, .int .i64 0, .int .i64 0, .int .u64 0, .int .u64 0, .int .u64 0, .int .i64 0, .int .i64 0] 55)).drewN nq).cell? ⟨b, o + 1 + 1, none⟩ = some (.int .u8 (f2 : Int)) := c2
  have hbw : b < ((w.alloc (.cells #[.int .i64 0, .int .i64 0, .int .i64 0, .int .i64 0, .int .u64 0, .int .u64 0, .int .u64 0, .int .i64 0, .int .i64 0] 55)).drewN nq).heap.size := hb0
  have hbX : b ≠ w.heap.size := by omega
  clear c0 c1 c2 hb0 k1
  generalize (w.alloc (.cells #[.int .i64 0, .int .i64 0, .int .i64 0, .int .i64 0, .int .u64 0, .int .u64 0, .int .u64 0, .int .i64 0, .int .i64 0] 55)).drewN nq = wr at *
  generalize hXX : w.heap.size = X at *
  clear hXX hwX
  go_wp2_with fail
  refine wp_region_held_drew (S := fun w' => w'.cell? ⟨b, o + 1, none⟩ = some (.int .u8 (f1 : Int)) ∧ w'.cell? ⟨b, o + 1 + 1, none⟩ = some (.int .u8 (f2 : Int))) (by kernel_rfl) ⟨c1', c2'⟩ (fun hHeld => ?_)
  refine wpAnyH_take (i := 0) (oi := ⟨_, _, _, _, _, _⟩) (v := ?_) rfl (by kernel_rfl) (by kernel_rfl) (by kernel_rfl) (fun _ _ _ h => h) (Or.inl ⟨by rfl, ?_⟩) (by assumption) ?_
  rotate_left
  · intro wz hSw
    try dsimp only at hSw
    go_simp
    try with_reducible rfl
  simp only [Act.put, List.setIfInBounds_toArray, List.set_cons_zero, List.set_cons_succ]
  refine wpAnyH_take (i := 1) (oi := ⟨_, _, _, _, _, _⟩) (v := ?_) rfl (by kernel_rfl) (by kernel_rfl) (by kernel_rfl) (fun _ _ _ h => h) (Or.inl ⟨by rfl, ?_⟩) (by assumption) ?_
  rotate_left
  · intro wz hSw
    try dsimp only at hSw
    go_simp
    try with_reducible rfl
  simp only [Act.put, List.setIfInBounds_toArray, List.set_cons_zero, List.set_cons_succ]
  refine wpAnyH_take (i := 2) (oi := ⟨_, _, _, _, _, _⟩) (v := ?_) rfl (by kernel_rfl) (by kernel_rfl) (by kernel_rfl) (fun _ _ _ h => h) (Or.inl ⟨by rfl, ?_⟩) (by assumption) ?_
  rotate_left
  · intro wz hSw
    try dsimp only at hSw
    go_simp
    try with_reducible rfl
  simp only [Act.put, List.setIfInBounds_toArray, List.set_cons_zero, List.set_cons_succ]
  refine wpAnyH_take (i := 3) (oi := ⟨_, _, _, _, _, _⟩) (v := ?_) rfl (by kernel_rfl) (by kernel_rfl) (by kernel_rfl) (fun _ _ _ h => h) (Or.inl ⟨by rfl, ?_⟩) (by assumption) ?_
  rotate_left
  · intro wz hSw
    try dsimp only at hSw
    go_simp
    try with_reducible rfl
  simp only [Act.put, List.setIfInBounds_toArray, List.set_cons_zero, List.set_cons_succ]
  refine wpAnyH_take (i := 4) (oi := ⟨_, _, _, _, _, _⟩) (v := ?_) rfl (by kernel_rfl) (by kernel_rfl) (by kernel_rfl) (fun _ _ _ h => h) (Or.inl ⟨by rfl, ?_⟩) (by assumption) ?_
  rotate_left
  · intro wz hSw
    try dsimp only at hSw
    go_simp
    try with_reducible rfl
  simp only [Act.put, List.setIfInBounds_toArray, List.set_cons_zero, List.set_cons_succ]
  refine wpAnyH_take (i := 5) (oi := ⟨_, _, _, _, _, _⟩) (v := ?_) rfl (by kernel_rfl) (by kernel_rfl) (by kernel_rfl) (fun _ _ _ h => h) (Or.inl ⟨by rfl, ?_⟩) (by assumption) ?_
  rotate_left
  · intro wz hSw
    try dsimp only at hSw
    go_simp
    try with_reducible rfl
  simp only [Act.put, List.setIfInBounds_toArray, List.set_cons_zero, List.set_cons_succ]
  refine wpAnyH_take (i := 6) (oi := ⟨_, _, _, _, _, _⟩) (v := ?_) rfl (by kernel_rfl) (by kernel_rfl) (by kernel_rfl) (fun _ _ _ h => h) (Or.inl ⟨by rfl, ?_⟩) (by assumption) ?_
  rotate_left
  · intro wz hSw
    try dsimp only at hSw
    go_simp
    try with_reducible rfl
  simp only [Act.put, List.setIfInBounds_toArray, List.set_cons_zero, List.set_cons_succ]
  refine wpAnyH_take (i := 7) (oi := ⟨_, _, _, _, _, _⟩) (v := ?_) rfl (by kernel_rfl) (by kernel_rfl) (by kernel_rfl) (fun _ _ _ h => h) (Or.inl ⟨by rfl, ?_⟩) (by assumption) ?_
  rotate_left
  · intro wz hSw
    try dsimp only at hSw
    go_simp
    try with_reducible rfl
  simp only [Act.put, List.setIfInBounds_toArray, List.set_cons_zero, List.set_cons_succ]
  refine wpAnyH_take (i := 8) (oi := ⟨_, _, _, _, _, _⟩) (v := ?_) rfl (by kernel_rfl) (by kernel_rfl) (by kernel_rfl) (fun _ _ _ h => h) (Or.inl ⟨by rfl, ?_⟩) (by assumption) ?_
  rotate_left
  · intro wz hSw
    try dsimp only at hSw
    go_simp
    try with_reducible rfl
  simp only [Act.put, List.setIfInBounds_toArray, List.set_cons_zero, List.set_cons_succ]
  refine wpAnyH_take (i := 9) (oi := ⟨_, _, _, _, _, _⟩) (v := ?_) rfl (by kernel_rfl) (by kernel_rfl) (by kernel_rfl) (fun _ _ _ h => h) (Or.inl ⟨by rfl, ?_⟩) (by assumption) ?_
  rotate_left
  · intro wz hSw
    try dsimp only at hSw
    go_simp
    try with_reducible rfl
  simp only [Act.put, List.setIfInBounds_toArray, List.set_cons_zero, List.set_cons_succ]
  refine wpAnyH_ready (rs := [10]) (by kernel_rfl) (by simp) ?_
  refine AllReadyH.cons (o := ⟨_, _, _, _, _, _⟩) rfl (fun K hK => ?_) AllReadyH.nil
  go_simp
  refine (C1.out _).mono ?_
  rintro e w1 ⟨rfl, g⟩
  have g2 := World.grownBy.trans (⟨rfl, rfl, rfl, Nat.le_refl _, fun _ _ _ => rfl⟩ : wr.grownBy wr.drew none) g
  have HR1 := Lib.hid (HR.out.kept g2)
  have d1 := (g2.cell_far ⟨b, o + 1, none⟩ hbw (by simp)).trans c1'
  have d2 := (g2.cell_far ⟨b, o + 1 + 1, none⟩ hbw (by simp)).trans c2'
  have hbw1 := Nat.lt_of_lt_of_le hbw g2.size
  clear g g2 c1' c2' hbw
  refine hK.out _ _ ⟨d1, d2⟩ (fun hHeld => ?_)
  clear hK K
  try simp only [Act.put, List.setIfInBounds_toArray, List.set_cons_zero, List.set_cons_succ]
  refine wpAnyH_ready (rs := [11]) (by kernel_rfl) (by simp) ?_
  refine AllReadyH.cons (o := ⟨_, _, _, _, _, _⟩) rfl (fun K hK => ?_) AllReadyH.nil
  go_simp
  have z0 : w1.cell? ⟨X, 0, none⟩ = some (.int .i64 0) := HR1.out.r 0 (by decide)
  have zf0 := HR1.out.rf 0
  have z1 : w1.cell? ⟨X, 1, none⟩ = some (.int .i64 0) := HR1.out.r 1 (by decide)
  have zf1 := HR1.out.rf 1
  have z2 : w1.cell? ⟨X, 2, none⟩ = some (.int .i64 0) := HR1.out.r 2 (by decide)
  have zf2 := HR1.out.rf 2
  have z3 : w1.cell? ⟨X, 3, none⟩ = some (.int .i64 0) := HR1.out.r 3 (by decide)
  have zf3 := HR1.out.rf 3
  have z4 : w1.cell? ⟨X, 4, none⟩ = some (.int .u64 0) := HR1.out.r 4 (by decide)
  have zf4 := HR1.out.rf 4
  have z5 : w1.cell? ⟨X, 5, none⟩ = some (.int .u64 0) := HR1.out.r 5 (by decide)
  have zf5 := HR1.out.rf 5
  have z6 : w1.cell? ⟨X, 6, none⟩ = some (.int .u64 0) := HR1.out.r 6 (by decide)
  have zf6 := HR1.out.rf 6
  have z7 : w1.cell? ⟨X, 7, none⟩ = some (.int .i64 0) := HR1.out.r 7 (by decide)
  have zf7 := HR1.out.rf 7
  have z8 : w1.cell? ⟨X, 8, none⟩ = some (.int .i64 0) := HR1.out.r 8 (by decide)
  have zf8 := HR1.out.rf 8
  try go_simp
  have hoS := put9_only w1 X (.int .i64 0) (.int .i64 0) (.int .i64 nn) (.int .i64 0) (.int .u64 0) (.int .u64 0) (.int .u64 0) (.int .i64 0) (.int .i64 0)
  refine hK.out _ _ ⟨(hoS.cell ⟨b, o + 1, none⟩ hbw1 (by show b < X ∨ X + 1 ≤ b; omega)).trans d1, (hoS.cell ⟨b, o + 1 + 1, none⟩ hbw1 (by show b < X ∨ X + 1 ≤ b; omega)).trans d2⟩ (fun hHeld => ?_)
  clear hK K
  try simp only [Act.put, List.setIfInBounds_toArray, List.set_cons_zero, List.set_cons_succ]
  refine wpAnyH_take (i := 12) (oi := ⟨_, _, _, _, _, _⟩) (v := ?_) rfl (by kernel_rfl) (by kernel_rfl) (by kernel_rfl) (fun _ _ _ h => h) (Or.inl ⟨by rfl, ?_⟩) (by assumption) ?_
  rotate_left
  · intro wz hSw
    try dsimp only at hSw
    go_simp
    try with_reducible rfl
  simp only [Act.put, List.setIfInBounds_toArray, List.set_cons_zero, List.set_cons_succ]
  refine wpAnyH_done (by kernel_rfl) ?_ _
  clear hHeld hoS
  go_wp2
  have ho := put9_only w1 X (.int .i64 0) (.int .i64 0) (.int .i64 nn) (.int .i64 0) (.int .u64 0) (.int .u64 0) (.int .u64 0) (.int .i64 0) (.int .i64 0)
  have hy := put9_at (w := w1) (X := X) (.int .i64 0) (.int .i64 0) (.int .i64 nn) (.int .i64 0) (.int .u64 0) (.int .u64 0) (.int .u64 0) (.int .i64 0) (.int .i64 0) (fun i hi => HR1.out.some i hi)
  have y0 : (put9 w1 X (.int .i64 0) (.int .i64 0) (.int .i64 nn) (.int .i64 0) (.int .u64 0) (.int .u64 0) (.int .u64 0) (.int .i64 0) (.int .i64 0)).cell? ⟨X, 0, none⟩ = some (.int .i64 0) := hy 0 (by decide)
  have y1 : (put9 w1 X (.int .i64 0) (.int .i64 0) (.int .i64 nn) (.int .i64 0) (.int .u64 0) (.int .u64 0) (.int .u64 0) (.int .i64 0) (.int .i64 0)).cell? ⟨X, 1, none⟩ = some (.int .i64 0) := hy 1 (by decide)
  have y2 : (put9 w1 X (.int .i64 0) (.int .i64 0) (.int .i64 nn) (.int .i64 0) (.int .u64 0) (.int .u64 0) (.int .u64 0) (.int .i64 0) (.int .i64 0)).cell? ⟨X, 2, none⟩ = some (.int .i64 nn) := hy 2 (by decide)
  have y3 : (put9 w1 X (.int .i64 0) (.int .i64 0) (.int .i64 nn) (.int .i64 0) (.int .u64 0) (.int .u64 0) (.int .u64 0) (.int .i64 0) (.int .i64 0)).cell? ⟨X, 3, none⟩ = some (.int .i64 0) := hy 3 (by decide)
  have y4 : (put9 w1 X (.int .i64 0) (.int .i64 0) (.int .i64 nn) (.int .i64 0) (.int .u64 0) (.int .u64 0) (.int .u64 0) (.int .i64 0) (.int .i64 0)).cell? ⟨X, 4, none⟩ = some (.int .u64 0) := hy 4 (by decide)
  have y5 : (put9 w1 X (.int .i64 0) (.int .i64 0) (.int .i64 nn) (.int .i64 0) (.int .u64 0) (.int .u64 0) (.int .u64 0) (.int .i64 0) (.int .i64 0)).cell? ⟨X, 5, none⟩ = some (.int .u64 0) := hy 5 (by decide)
  have y6 : (put9 w1 X (.int .i64 0) (.int .i64 0) (.int .i64 nn) (.int .i64 0) (.int .u64 0) (.int .u64 0) (.int .u64 0) (.int .i64 0) (.int .i64 0)).cell? ⟨X, 6, none⟩ = some (.int .u64 0) := hy 6 (by decide)
  have y7 : (put9 w1 X (.int .i64 0) (.int .i64 0) (.int .i64 nn) (.int .i64 0) (.int .u64 0) (.int .u64 0) (.int .u64 0) (.int .i64 0) (.int .i64 0)).cell? ⟨X, 7, none⟩ = some (.int .i64 0) := hy 7 (by decide)
  have y8 : (put9 w1 X (.int .i64 0) (.int .i64 0) (.int .i64 nn) (.int .i64 0) (.int .u64 0) (.int .u64 0) (.int .u64 0) (.int .i64 0) (.int .i64 0)).cell? ⟨X, 8, none⟩ = some (.int .i64 0) := hy 8 (by decide)
  change bodyPost _ _ _ _ _ (put9 w1 X (.int .i64 0) (.int .i64 0) (.int .i64 nn) (.int .i64 0) (.int .u64 0) (.int .u64 0) (.int .u64 0) (.int .i64 0) (.int .i64 0))
  clear hy
  generalize put9 w1 X (.int .i64 0) (.int .i64 0) (.int .i64 nn) (.int .i64 0) (.int .u64 0) (.int .u64 0) (.int .u64 0) (.int .i64 0) (.int .i64 0) = wF at *
  exact bodyPost_ret (v := .tuple #[.agg #[.int .i64 0, .int .i64 0, .int .i64 nn, .int .i64 0, .int .u64 0, .int .u64 0, .int .u64 0, .int .i64 0, .int .i64 0], .bool true]) (by simp [results, Tryd.results42, go_sem, y0, y1, y2, y3, y4, y5, y6, y7, y8]) rfl ⟨rfl, Only.on HR1.out.g ho HR1.out.xw⟩

set_option maxHeartbeats 4000000 in
theorem wparse_r {w : World} {v : Value} {F : List Nat} (H : ReadsB w v F) (hl : F.length = 4) (h0 : F.getD 0 0 = 2) :
    Calls Tryd.prog 42 #[v] w fun r w' => r = .returned (.tuple #[(En.mk 2 (F.getD 1 0 : Nat) 0 zC (F.getD 2 0 : Nat) (F.getD 3 0 : Nat)).val, .bool true]) ∧ w.grownBy w' none := by
  obtain ⟨a0, cap, rfl, hx1, hx2, hx3, hx4⟩ := H
  obtain ⟨b, o, rfl, hb, hc⟩ := hx4 (by omega)
  have HH : Hid (ReadsB w (.slice (some ⟨b, o, none⟩) F.length cap) F) := Lib.hid ⟨_, cap, rfl, hx1, hx2, hx3, hx4⟩
  have hcap : F.length ≤ cap := hx1
  clear hx1 hx2 hx4 hc hb
  have k1 := World.grownBy_alloc w (.cells #[.int .i64 0, .int .i64 0, .int .i64 0, .int .i64 0, .int .u64 0, .int .u64 0, .int .u64 0, .int .i64 0, .int .i64 0] 55) none
  have c0 := ((HH.out.grown k1).get 0 (by omega)).1
  have b0 := ((HH.out.grown k1).get 0 (by omega)).2.1
  have c1 := ((HH.out.grown k1).get 1 (by omega)).1
  have b1 := ((HH.out.grown k1).get 1 (by omega)).2.1
  have c2 := ((HH.out.grown k1).get 2 (by omega)).1
  have b2 := ((HH.out.grown k1).get 2 (by omega)).2.1
  have c3 := ((HH.out.grown k1).get 3 (by omega)).1
  have b3 := ((HH.out.grown k1).get 3 (by omega)).2.1
  have hb0 := ((HH.out.grown k1).get 0 (by omega)).2.2
  have hbw0 := (HH.out.get 0 (by omega)).2.2
  rw [Nat.add_zero, h0] at c0
  rw [show o + 2 = o + 1 + 1 by omega] at c2
  rw [show o + 3 = o + 1 + 2 by omega] at c3
  generalize F.getD 1 0 = f1 at *
  generalize F.getD 2 0 = f2 at *
  generalize F.getD 3 0 = f3 at *
  rw [hl]
  have hc1 : ¬ cap = 1 := by omega
  have hc2 : ¬ cap = 2 := by omega
  have hw1 : IntKind.i64.wrap ((f1 : Nat) : Int) = ((f1 : Nat) : Int) := by rw [IntKind.wrap_i64]; omega
  have hw2 : IntKind.i64.wrap ((f2 : Nat) : Int) = ((f2 : Nat) : Int) := by rw [IntKind.wrap_i64]; omega
  have hw3 : IntKind.i64.wrap ((f3 : Nat) : Int) = ((f3 : Nat) : Int) := by rw [IntKind.wrap_i64]; omega
  have C1 := Lib.hid (fun wz => wready wz ((f1 : Nat) : Int) ((f2 : Nat) : Int) ((f3 : Nat) : Int))
  unfold En.val zC
  simp only
  clear HH h0 b0
  go_enter Tryd.func42, Tryd.ntmps42
  go_wp2_with fail
  go_quiet (fail)
  have HR := Lib.hid ((rese_new (World.grownBy.refl w none)).kept (⟨rfl, rfl, rfl, Nat.le_refl _, fun _ _ _ => rfl⟩ : (w.alloc (.cells #[.int .i64 0, .int .i64 0, .int .i64 0, .int .i64 0, .int .u64 0, .int .u64 0, .int .u64 0, .int .i64 0, .int .i64 0] 55)).grownBy ((w.alloc (.cells #[.int .i64 0, .int .i64 0, .int .i64 0, .int .i64 0, .int .u64 0, .int .u64 0, .int .u64 0, .int .i64 0, .int .i64 0] 55)).drewN nq) none))
  have hwX : w.heap.size ≤ w.heap.size := Nat.le_refl _
  have c1' : ((w.alloc (.cells #[.int .i64 0, .int .i64 0, .int .i64 0, .int .i64 0, .int .u64 0, .int .u64 0, .int .u64 0, .int .i64 0, .int .i64 0] 55)).drewN nq).cell? ⟨b, o + 1, none⟩ = some (.int .u8 (f1 : Int)) := c1
  have c2' : ((w.alloc (.cells #[.int .i64 0, .int .i64 0, .int .i64 0, .int .i64 0, .int .u64 0, .int .u64 0, .int .u64 0, .int .i64 0, .int .i64 0] 55)).drewN nq).cell? ⟨b, o + 1 + 1, none⟩ = some (.int .u8 (f2 : Int)) := c2
  have c3' : ((w.alloc (.cells #[.int .i64 0, .int .i64 0, .int .i64 0, .int .i64 0, .int .u64 0, .int .u64 0, .int .u64 0, .int .i64 0, .int .i64 0] 55)).drewN nq).cell? ⟨b, o + 1 + 2, none⟩ = some (.int .u8 (f3 : Int)) := c3
  have hbw : b < ((w.alloc (.cells #[.int .i64 0, .int .i64 0, .int .i64 0, .int .i64 0, .int .u64 0, .int .u64 0, .int .u64 0, .int .i64 0, .int .i64 0] 55)).drewN nq).heap.size := hb0
  have hbX : b ≠ w.heap.size := by omega
  clear c0 c1 c2 c3 hb0 k1
  generalize (w.alloc (.cells #[.int .i64 0, .int .i64 0, .int .i64 0, .int .i64 0, .int .u64 0, .int .u64 0, .int .u64 0, .int .i64 0, .int .i64 0] 55)).drewN nq = wr at *
  generalize hXX : w.heap.size = X at *
  clear hXX hwX
  go_wp2_with fail
  refine wp_region_held_drew (S := fun w' => w'.cell? ⟨b, o + 1, none⟩ = some (.int .u8 (f1 : Int)) ∧ w'.cell? ⟨b, o + 1 + 1, none⟩ = some (.int .u8 (f2 : Int)) ∧ w'.cell? ⟨b, o + 1 + 2, none⟩ = some (.int .u8 (f3 : Int))) (by kernel_rfl) ⟨c1', c2', c3'⟩ (fun hHeld => ?_)
  refine wpAnyH_take (i := 0) (oi := ⟨_, _, _, _, _, _⟩) (v := ?_) rfl (by kernel_rfl) (by kernel_rfl) (by kernel_rfl) (fun _ _ _ h => h) (Or.inl ⟨by rfl, ?_⟩) (by assumption) ?_
  rotate_left
  · intro wz hSw
    try dsimp only at hSw
    go_simp
    try with_reducible rfl
  simp only [Act.put, List.setIfInBounds_toArray, List.set_cons_zero, List.set_cons_succ]
  refine wpAnyH_take (i := 1) (oi := ⟨_, _, _, _, _, _⟩) (v := ?_) rfl (by kernel_rfl) (by kernel_rfl) (by kernel_rfl) (fun _ _ _ h => h) (Or.inl ⟨by rfl, ?_⟩) (by assumption) ?_
  rotate_left
  · intro wz hSw
    try dsimp only at hSw
    go_simp
    try with_reducible rfl
  simp only [Act.put, List.setIfInBounds_toArray, List.set_cons_zero, List.set_cons_succ]
  refine wpAnyH_take (i := 2) (oi := ⟨_, _, _, _, _, _⟩) (v := ?_) rfl (by kernel_rfl) (by kernel_rfl) (by kernel_rfl) (fun _ _ _ h => h) (Or.inl ⟨by rfl, ?_⟩) (by assumption) ?_
  rotate_left
  · intro wz hSw
    try dsimp only at hSw
    go_simp
    try with_reducible rfl
  simp only [Act.put, List.setIfInBounds_toArray, List.set_cons_zero, List.set_cons_succ]
  refine wpAnyH_take (i := 3) (oi := ⟨_, _, _, _, _, _⟩) (v := ?_) rfl (by kernel_rfl) (by kernel_rfl) (by kernel_rfl) (fun _ _ _ h => h) (Or.inl ⟨by rfl, ?_⟩) (by assumption) ?_
  rotate_left
  · intro wz hSw
    try dsimp only at hSw
    go_simp
    try with_reducible rfl
  simp only [Act.put, List.setIfInBounds_toArray, List.set_cons_zero, List.set_cons_succ]
  refine wpAnyH_take (i := 4) (oi := ⟨_, _, _, _, _, _⟩) (v := ?_) rfl (by kernel_rfl) (by kernel_rfl) (by kernel_rfl) (fun _ _ _ h => h) (Or.inl ⟨by rfl, ?_⟩) (by assumption) ?_
  rotate_left
  · intro wz hSw
    try dsimp only at hSw
    go_simp
    try with_reducible rfl
  simp only [Act.put, List.setIfInBounds_toArray, List.set_cons_zero, List.set_cons_succ]
  refine wpAnyH_take (i := 5) (oi := ⟨_, _, _, _, _, _⟩) (v := ?_) rfl (by kernel_rfl) (by kernel_rfl) (by kernel_rfl) (fun _ _ _ h => h) (Or.inl ⟨by rfl, ?_⟩) (by assumption) ?_
  rotate_left
  · intro wz hSw
    try dsimp only at hSw
    go_simp
    try with_reducible rfl
  simp only [Act.put, List.setIfInBounds_toArray, List.set_cons_zero, List.set_cons_succ]
  refine wpAnyH_take (i := 6) (oi := ⟨_, _, _, _, _, _⟩) (v := ?_) rfl (by kernel_rfl) (by kernel_rfl) (by kernel_rfl) (fun _ _ _ h => h) (Or.inl ⟨by rfl, ?_⟩) (by assumption) ?_
  rotate_left
  · intro wz hSw
    try dsimp only at hSw
    go_simp
    try with_reducible rfl
  simp only [Act.put, List.setIfInBounds_toArray, List.set_cons_zero, List.set_cons_succ]
  refine wpAnyH_take (i := 7) (oi := ⟨_, _, _, _, _, _⟩) (v := ?_) rfl (by kernel_rfl) (by kernel_rfl) (by kernel_rfl) (fun _ _ _ h => h) (Or.inl ⟨by rfl, ?_⟩) (by assumption) ?_
  rotate_left
  · intro wz hSw
    try dsimp only at hSw
    go_simp
    try with_reducible rfl
  simp only [Act.put, List.setIfInBounds_toArray, List.set_cons_zero, List.set_cons_succ]
  refine wpAnyH_take (i := 8) (oi := ⟨_, _, _, _, _, _⟩) (v := ?_) rfl (by kernel_rfl) (by kernel_rfl) (by kernel_rfl) (fun _ _ _ h => h) (Or.inl ⟨by rfl, ?_⟩) (by assumption) ?_
  rotate_left
  · intro wz hSw
    try dsimp only at hSw
    go_simp
    try with_reducible rfl
  simp only [Act.put, List.setIfInBounds_toArray, List.set_cons_zero, List.set_cons_succ]
  refine wpAnyH_take (i := 9) (oi := ⟨_, _, _, _, _, _⟩) (v := ?_) rfl (by kernel_rfl) (by kernel_rfl) (by kernel_rfl) (fun _ _ _ h => h) (Or.inl ⟨by rfl, ?_⟩) (by assumption) ?_
  rotate_left
  · intro wz hSw
    try dsimp only at hSw
    go_simp
    try with_reducible rfl
  simp only [Act.put, List.setIfInBounds_toArray, List.set_cons_zero, List.set_cons_succ]
  refine wpAnyH_take (i := 10) (oi := ⟨_, _, _, _, _, _⟩) (v := ?_) rfl (by kernel_rfl) (by kernel_rfl) (by kernel_rfl) (fun _ _ _ h => h) (Or.inl ⟨by rfl, ?_⟩) (by assumption) ?_
  rotate_left
  · intro wz hSw
    try dsimp only at hSw
    go_simp
    try with_reducible rfl
  simp only [Act.put, List.setIfInBounds_toArray, List.set_cons_zero, List.set_cons_succ]
  refine wpAnyH_take (i := 11) (oi := ⟨_, _, _, _, _, _⟩) (v := ?_) rfl (by kernel_rfl) (by kernel_rfl) (by kernel_rfl) (fun _ _ _ h => h) (Or.inl ⟨by rfl, ?_⟩) (by assumption) ?_
  rotate_left
  · intro wz hSw
    try dsimp only at hSw
    go_simp
    try with_reducible rfl
  simp only [Act.put, List.setIfInBounds_toArray, List.set_cons_zero, List.set_cons_succ]
  refine wpAnyH_ready (rs := [12]) (by kernel_rfl) (by simp) ?_
  refine AllReadyH.cons (o := ⟨_, _, _, _, _, _⟩) rfl (fun K hK => ?_) AllReadyH.nil
  go_simp
  refine (C1.out _).mono ?_
  rintro e w1 ⟨rfl, g⟩
  have g2 := World.grownBy.trans (⟨rfl, rfl, rfl, Nat.le_refl _, fun _ _ _ => rfl⟩ : wr.grownBy wr.drew none) g
  have HR1 := Lib.hid (HR.out.kept g2)
  have d1 := (g2.cell_far ⟨b, o + 1, none⟩ hbw (by simp)).trans c1'
  have d2 := (g2.cell_far ⟨b, o + 1 + 1, none⟩ hbw (by simp)).trans c2'
  have d3 := (g2.cell_far ⟨b, o + 1 + 2, none⟩ hbw (by simp)).trans c3'
  have hbw1 := Nat.lt_of_lt_of_le hbw g2.size
  clear g g2 c1' c2' c3' hbw
  refine hK.out _ _ ⟨d1, d2, d3⟩ (fun hHeld => ?_)
  clear hK K
  try simp only [Act.put, List.setIfInBounds_toArray, List.set_cons_zero, List.set_cons_succ]
  refine wpAnyH_ready (rs := [13]) (by kernel_rfl) (by simp) ?_
  refine AllReadyH.cons (o := ⟨_, _, _, _, _, _⟩) rfl (fun K hK => ?_) AllReadyH.nil
  go_simp
  have z0 : w1.cell? ⟨X, 0, none⟩ = some (.int .i64 0) := HR1.out.r 0 (by decide)
  have zf0 := HR1.out.rf 0
  have z1 : w1.cell? ⟨X, 1, none⟩ = some (.int .i64 0) := HR1.out.r 1 (by decide)
  have zf1 := HR1.out.rf 1
  have z2 : w1.cell? ⟨X, 2, none⟩ = some (.int .i64 0) := HR1.out.r 2 (by decide)
  have zf2 := HR1.out.rf 2
  have z3 : w1.cell? ⟨X, 3, none⟩ = some (.int .i64 0) := HR1.out.r 3 (by decide)
  have zf3 := HR1.out.rf 3
  have z4 : w1.cell? ⟨X, 4, none⟩ = some (.int .u64 0) := HR1.out.r 4 (by decide)
  have zf4 := HR1.out.rf 4
  have z5 : w1.cell? ⟨X, 5, none⟩ = some (.int .u64 0) := HR1.out.r 5 (by decide)
  have zf5 := HR1.out.rf 5
  have z6 : w1.cell? ⟨X, 6, none⟩ = some (.int .u64 0) := HR1.out.r 6 (by decide)
  have zf6 := HR1.out.rf 6
  have z7 : w1.cell? ⟨X, 7, none⟩ = some (.int .i64 0) := HR1.out.r 7 (by decide)
  have zf7 := HR1.out.rf 7
  have z8 : w1.cell? ⟨X, 8, none⟩ = some (.int .i64 0) := HR1.out.r 8 (by decide)
  have zf8 := HR1.out.rf 8
  try go_simp
  have hoS := put9_only w1 X (.int .i64 2) (.int .i64 (f1 : Int)) (.int .i64 0) (.int .i64 0) (.int .u64 0) (.int .u64 0) (.int .u64 0) (.int .i64 (f2 : Int)) (.int .i64 (f3 : Int))
  refine hK.out _ _ ⟨(hoS.cell ⟨b, o + 1, none⟩ hbw1 (by show b < X ∨ X + 1 ≤ b; omega)).trans d1, (hoS.cell ⟨b, o + 1 + 1, none⟩ hbw1 (by show b < X ∨ X + 1 ≤ b; omega)).trans d2, (hoS.cell ⟨b, o + 1 + 2, none⟩ hbw1 (by show b < X ∨ X + 1 ≤ b; omega)).trans d3⟩ (fun hHeld => ?_)
  clear hK K
  try simp only [Act.put, List.setIfInBounds_toArray, List.set_cons_zero, List.set_cons_succ]
  refine wpAnyH_take (i := 14) (oi := ⟨_, _, _, _, _, _⟩) (v := ?_) rfl (by kernel_rfl) (by kernel_rfl) (by kernel_rfl) (fun _ _ _ h => h) (Or.inl ⟨by rfl, ?_⟩) (by assumption) ?_
  rotate_left
  · intro wz hSw
    try dsimp only at hSw
    go_simp
    try with_reducible rfl
  simp only [Act.put, List.setIfInBounds_toArray, List.set_cons_zero, List.set_cons_succ]
  refine wpAnyH_done (by kernel_rfl) ?_ _
  clear hHeld hoS
  go_wp2
  have ho := put9_only w1 X (.int .i64 2) (.int .i64 (f1 : Int)) (.int .i64 0) (.int .i64 0) (.int .u64 0) (.int .u64 0) (.int .u64 0) (.int .i64 (f2 : Int)) (.int .i64 (f3 : Int))
  have hy := put9_at (w := w1) (X := X) (.int .i64 2) (.int .i64 (f1 : Int)) (.int .i64 0) (.int .i64 0) (.int .u64 0) (.int .u64 0) (.int .u64 0) (.int .i64 (f2 : Int)) (.int .i64 (f3 : Int)) (fun i hi => HR1.out.some i hi)
  have y0 : (put9 w1 X (.int .i64 2) (.int .i64 (f1 : Int)) (.int .i64 0) (.int .i64 0) (.int .u64 0) (.int .u64 0) (.int .u64 0) (.int .i64 (f2 : Int)) (.int .i64 (f3 : Int))).cell? ⟨X, 0, none⟩ = some (.int .i64 2) := hy 0 (by decide)
  have y1 : (put9 w1 X (.int .i64 2) (.int .i64 (f1 : Int)) (.int .i64 0) (.int .i64 0) (.int .u64 0) (.int .u64 0) (.int .u64 0) (.int .i64 (f2 : Int)) (.int .i64 (f3 : Int))).cell? ⟨X, 1, none⟩ = some (.int .i64 (f1 : Int)) := hy 1 (by decide)
  have y2 : (put9 w1 X (.int .i64 2) (.int .i64 (f1 : Int)) (.int .i64 0) (.int .i64 0) (.int .u64 0) (.int .u64 0) (.int .u64 0) (.int .i64 (f2 : Int)) (.int .i64 (f3 : Int))).cell? ⟨X, 2, none⟩ = some (.int .i64 0) := hy 2 (by decide)
  have y3 : (put9 w1 X (.int .i64 2) (.int .i64 (f1 : Int)) (.int .i64 0) (.int .i64 0) (.int .u64 0) (.int .u64 0) (.int .u64 0) (.int .i64 (f2 : Int)) (.int .i64 (f3 : Int))).cell? ⟨X, 3, none⟩ = some (.int .i64 0) := hy 3 (by decide)
  have y4 : (put9 w1 X (.int .i64 2) (.int .i64 (f1 : Int)) (.int .i64 0) (.int .i64 0) (.int .u64 0) (.int .u64 0) (.int .u64 0) (.int .i64 (f2 : Int)) (.int .i64 (f3 : Int))).cell? ⟨X, 4, none⟩ = some (.int .u64 0) := hy 4 (by decide)
  have y5 : (put9 w1 X (.int .i64 2) (.int .i64 (f1 : Int)) (.int .i64 0) (.int .i64 0) (.int .u64 0) (.int .u64 0) (.int .u64 0) (.int .i64 (f2 : Int)) (.int .i64 (f3 : Int))).cell? ⟨X, 5, none⟩ = some (.int .u64 0) := hy 5 (by decide)
  have y6 : (put9 w1 X (.int .i64 2) (.int .i64 (f1 : Int)) (.int .i64 0) (.int .i64 0) (.int .u64 0) (.int .u64 0) (.int .u64 0) (.int .i64 (f2 : Int)) (.int .i64 (f3 : Int))).cell? ⟨X, 6, none⟩ = some (.int .u64 0) := hy 6 (by decide)
  have y7 : (put9 w1 X (.int .i64 2) (.int .i64 (f1 : Int)) (.int .i64 0) (.int .i64 0) (.int .u64 0) (.int .u64 0) (.int .u64 0) (.int .i64 (f2 : Int)) (.int .i64 (f3 : Int))).cell? ⟨X, 7, none⟩ = some (.int .i64 (f2 : Int)) := hy 7 (by decide)
  have y8 : (put9 w1 X (.int .i64 2) (.int .i64 (f1 : Int)) (.int .i64 0) (.int .i64 0) (.int .u64 0) (.int .u64 0) (.int .u64 0) (.int .i64 (f2 : Int)) (.int .i64 (f3 : Int))).cell? ⟨X, 8, none⟩ = some (.int .i64 (f3 : Int)) := hy 8 (by decide)
  change bodyPost _ _ _ _ _ (put9 w1 X (.int .i64 2) (.int .i64 (f1 : Int)) (.int .i64 0) (.int .i64 0) (.int .u64 0) (.int .u64 0) (.int .u64 0) (.int .i64 (f2 : Int)) (.int .i64 (f3 : Int)))
  clear hy
  generalize put9 w1 X (.int .i64 2) (.int .i64 (f1 : Int)) (.int .i64 0) (.int .i64 0) (.int .u64 0) (.int .u64 0) (.int .u64 0) (.int .i64 (f2 : Int)) (.int .i64 (f3 : Int)) = wF at *
  exact bodyPost_ret (v := .tuple #[.agg #[.int .i64 2, .int .i64 (f1 : Int), .int .i64 0, .int .i64 0, .int .u64 0, .int .u64 0, .int .u64 0, .int .i64 (f2 : Int), .int .i64 (f3 : Int)], .bool true]) (by simp [results, Tryd.results42, go_sem, y0, y1, y2, y3, y4, y5, y6, y7, y8]) rfl ⟨rfl, Only.on HR1.out.g ho HR1.out.xw⟩

set_option maxHeartbeats 4000000 in
theorem wparse_a {w : World} {v : Value} {F : List Nat} (H : ReadsB w v F) (HT : FormsAt w) (hl : 2 ≤ F.length) (h0 : F.getD 0 0 = 1) :
    Calls Tryd.prog 42 #[v] w fun r w' => r = .returned (.tuple #[(En.mk 1 (F.getD 1 0 : Nat) 0 ((cr (F.drop 2)).getD zC) 0 0).val, .bool (cr (F.drop 2)).isSome]) ∧ w.grownBy w' none := by
  obtain ⟨a0, cap, rfl, hx1, hx2, hx3, hx4⟩ := H
  obtain ⟨b, o, rfl, hb, hc⟩ := hx4 (by omega)
  have HH : Hid (ReadsB w (.slice (some ⟨b, o, none⟩) F.length cap) F) := Lib.hid ⟨_, cap, rfl, hx1, hx2, hx3, hx4⟩
  have hcap : F.length ≤ cap := hx1
  clear hx1 hx2 hx4 hc hb
  have k1 := World.grownBy_alloc w (.cells #[.int .i64 0, .int .i64 0, .int .i64 0, .int .i64 0, .int .u64 0, .int .u64 0, .int .u64 0, .int .i64 0, .int .i64 0] 55) none
  have c0 := ((HH.out.grown k1).get 0 (by omega)).1
  have b0 := ((HH.out.grown k1).get 0 (by omega)).2.1
  have c1 := ((HH.out.grown k1).get 1 (by omega)).1
  have b1 := ((HH.out.grown k1).get 1 (by omega)).2.1
  have hb0 := ((HH.out.grown k1).get 0 (by omega)).2.2
  have hbw0 := (HH.out.get 0 (by omega)).2.2
  rw [Nat.add_zero, h0] at c0
  generalize F.getD 1 0 = f1 at *
  have hc1 : ¬ cap = 1 := by omega
  have q1 : (((F.length : Nat) : Int) == 0) = false := by rw [beq_eq_false_iff_ne]; omega
  have q2 : (0 : Int) < ((F.length : Nat) : Int) := by omega
  have q3 : (1 : Int) ≤ ((F.length : Nat) : Int) := by omega
  have q4 : (((F.length - 1 : Nat) : Int)) > 0 := by omega
  have q5 : (1 : Int) ≤ ((F.length - 1 : Nat) : Int) := by omega
  have q6 : (0 : Int) < ((F.length - 1 : Nat) : Int) := by omega
  have hw1 : IntKind.i64.wrap ((f1 : Nat) : Int) = ((f1 : Nat) : Int) := by rw [IntKind.wrap_i64]; omega
  obtain ⟨⟨op, ca, cb, cc⟩, hY⟩ : ∃ Y, Y = (cr (F.drop 2)).getD zC := ⟨_, rfl⟩
  obtain ⟨ok, hok⟩ : ∃ ok, ok = (cr (F.drop 2)).isSome := ⟨_, rfl⟩
  have hcv : crV (F.drop 2) = .tuple #[.agg #[.int .i64 op, .int .u64 (ca : Nat), .int .u64 (cb : Nat), .int .u64 (cc : Nat)], .bool ok] := by rw [crV, ← hY, hok]; rfl
  rw [← hY, ← hok]
  have CR : Hid (∀ (wz : World) (p : Option Addr) (k2 : Nat), w.grownBy wz none → (p = some ⟨b, o + 1 + 1, none⟩ ∨ (p = some ⟨b, o + 1, none⟩ ∧ F.length - 1 - 1 = 0)) → k2 = cap - 1 - 1 → Calls Tryd.prog 25 #[.slice p (F.length - 1 - 1) k2] wz fun e w' => e = .returned (.tuple #[.agg #[.int .i64 op, .int .u64 (ca : Nat), .int .u64 (cb : Nat), .int .u64 (cc : Nat)], .bool ok]) ∧ wz.grownBy w' none) := Lib.hid (fun wz p k2 hg hp hk2 => by
    rw [← hcv]
    refine cread ?_ (HT.kept hg)
    rcases hp with rfl | ⟨rfl, hz⟩
    · rw [show o + 1 + 1 = o + 2 by omega]
      exact (HH.out.grown hg).drop 2 _ _ hl (by omega) (by omega)
    · have hnil : F.drop 2 = [] := List.eq_nil_of_length_eq_zero (by rw [List.length_drop]; omega)
      rw [hnil, hz]
      exact ⟨_, k2, rfl, Nat.zero_le _, by rw [hk2]; have := hx3; obtain ⟨_, c', e', _, h2, _⟩ := HH.out; injection e' with _ _ e'; subst e'; omega, fun x hx => absurd hx (by simp), fun h => absurd h (by simp)⟩)
  have C1 := Lib.hid (fun wz => wask wz ((f1 : Nat) : Int) op ca cb cc)
  unfold En.val
  simp only
  have KK := Lib.hid k1
  clear h0 b0 hY hok hcv HT
  generalize F.length = n at *
  have hcc : cap - 1 = 1 ∨ ¬ cap - 1 = 1 := by omega
  rcases hcc with hcc | hcc
  · skip
    go_enter Tryd.func42, Tryd.ntmps42
    go_wp2_with fail
    go_quiet (fail)
    have HR := Lib.hid ((rese_new (World.grownBy.refl w none)).kept (⟨rfl, rfl, rfl, Nat.le_refl _, fun _ _ _ => rfl⟩ : (w.alloc (.cells #[.int .i64 0, .int .i64 0, .int .i64 0, .int .i64 0, .int .u64 0, .int .u64 0, .int .u64 0, .int .i64 0, .int .i64 0] 55)).grownBy ((w.alloc (.cells #[.int .i64 0, .int .i64 0, .int .i64 0, .int .i64 0, .int .u64 0, .int .u64 0, .int .u64 0, .int .i64 0, .int .i64 0] 55)).drewN nq) none))
    have hwX : w.heap.size ≤ w.heap.size := Nat.le_refl _
    have c1' : ((w.alloc (.cells #[.int .i64 0, .int .i64 0, .int .i64 0, .int .i64 0, .int .u64 0, .int .u64 0, .int .u64 0, .int .i64 0, .int .i64 0] 55)).drewN nq).cell? ⟨b, o + 1, none⟩ = some (.int .u8 (f1 : Int)) := c1
    have hbw : b < ((w.alloc (.cells #[.int .i64 0, .int .i64 0, .int .i64 0, .int .i64 0, .int .u64 0, .int .u64 0, .int .u64 0, .int .i64 0, .int .i64 0] 55)).drewN nq).heap.size := hb0
    have hbX : b ≠ w.heap.size := by omega
    clear c0 c1 hb0 k1
    generalize (w.alloc (.cells #[.int .i64 0, .int .i64 0, .int .i64 0, .int .i64 0, .int .u64 0, .int .u64 0, .int .u64 0, .int .i64 0, .int .i64 0] 55)).drewN nq = wr at *
    generalize hXX : w.heap.size = X at *
    clear hXX hwX
    go_wp2_with fail
    refine (CR.out _ _ _ HR.out.g (Or.inr ⟨rfl, by omega⟩) (by omega)).mono ?_
    rintro e w2 ⟨rfl, g⟩
    have HR2 := Lib.hid (HR.out.kept g)
    have kb := World.grownBy_alloc w2 (.cells #[.int .i64 op, .int .u64 (ca : Nat), .int .u64 (cb : Nat), .int .u64 (cc : Nat)] 24) none
    have d1 : (w2.alloc (.cells #[.int .i64 op, .int .u64 (ca : Nat), .int .u64 (cb : Nat), .int .u64 (cc : Nat)] 24)).drew.cell? ⟨b, o + 1, none⟩ = some (.int .u8 (f1 : Int)) := ((g.trans kb).cell_far ⟨b, o + 1, none⟩ hbw (by simp)).trans c1'
    have e0 : (w2.alloc (.cells #[.int .i64 op, .int .u64 (ca : Nat), .int .u64 (cb : Nat), .int .u64 (cc : Nat)] 24)).drew.cell? ⟨w2.heap.size, 0, none⟩ = some (.int .i64 op) := World.cell?_alloc_new ..
    have e1 : (w2.alloc (.cells #[.int .i64 op, .int .u64 (ca : Nat), .int .u64 (cb : Nat), .int .u64 (cc : Nat)] 24)).drew.cell? ⟨w2.heap.size, 1, none⟩ = some (.int .u64 (ca : Nat)) := World.cell?_alloc_new ..
    have e2 : (w2.alloc (.cells #[.int .i64 op, .int .u64 (ca : Nat), .int .u64 (cb : Nat), .int .u64 (cc : Nat)] 24)).drew.cell? ⟨w2.heap.size, 2, none⟩ = some (.int .u64 (cb : Nat)) := World.cell?_alloc_new ..
    have e3 : (w2.alloc (.cells #[.int .i64 op, .int .u64 (ca : Nat), .int .u64 (cb : Nat), .int .u64 (cc : Nat)] 24)).drew.cell? ⟨w2.heap.size, 3, none⟩ = some (.int .u64 (cc : Nat)) := World.cell?_alloc_new ..
    have hsE : w2.heap.size < (w2.alloc (.cells #[.int .i64 op, .int .u64 (ca : Nat), .int .u64 (cb : Nat), .int .u64 (cc : Nat)] 24)).drew.heap.size := by show _ < (w2.alloc _).heap.size; simp
    have hsb : b < (w2.alloc (.cells #[.int .i64 op, .int .u64 (ca : Nat), .int .u64 (cb : Nat), .int .u64 (cc : Nat)] 24)).drew.heap.size := Nat.lt_of_lt_of_le (Nat.lt_of_lt_of_le hbw g.size) kb.size
    have HR3 := Lib.hid ((HR2.out.kept kb).kept (⟨rfl, rfl, rfl, Nat.le_refl _, fun _ _ _ => rfl⟩ : (w2.alloc (.cells #[.int .i64 op, .int .u64 (ca : Nat), .int .u64 (cb : Nat), .int .u64 (cc : Nat)] 24)).grownBy (w2.alloc (.cells #[.int .i64 op, .int .u64 (ca : Nat), .int .u64 (cb : Nat), .int .u64 (cc : Nat)] 24)).drew none))
    have hneE : w2.heap.size ≠ X := by have := HR2.out.sz; omega
    clear g c1' kb
    go_wp2_with fail
    generalize w2.alloc (.cells #[.int .i64 op, .int .u64 (ca : Nat), .int .u64 (cb : Nat), .int .u64 (cc : Nat)] 24) = w3 at *
    generalize w2.heap.size = Y at *
    refine wp_region_held_drew (S := fun w' => w'.cell? ⟨b, o + 1, none⟩ = some (.int .u8 (f1 : Int)) ∧ w'.cell? ⟨Y, 0, none⟩ = some (.int .i64 op) ∧ w'.cell? ⟨Y, 1, none⟩ = some (.int .u64 (ca : Nat)) ∧ w'.cell? ⟨Y, 2, none⟩ = some (.int .u64 (cb : Nat)) ∧ w'.cell? ⟨Y, 3, none⟩ = some (.int .u64 (cc : Nat))) (by kernel_rfl) ⟨d1, e0, e1, e2, e3⟩ (fun hHeld => ?_)
    refine wpAnyH_take (i := 0) (oi := ⟨_, _, _, _, _, _⟩) (v := ?_) rfl (by kernel_rfl) (by kernel_rfl) (by kernel_rfl) (fun _ _ _ h => h) (Or.inl ⟨by rfl, ?_⟩) (by assumption) ?_
    rotate_left
    · intro wz hSw
      try dsimp only at hSw
      go_simp
      try with_reducible rfl
    simp only [Act.put, List.setIfInBounds_toArray, List.set_cons_zero, List.set_cons_succ]
    refine wpAnyH_take (i := 1) (oi := ⟨_, _, _, _, _, _⟩) (v := ?_) rfl (by kernel_rfl) (by kernel_rfl) (by kernel_rfl) (fun _ _ _ h => h) (Or.inl ⟨by rfl, ?_⟩) (by assumption) ?_
    rotate_left
    · intro wz hSw
      try dsimp only at hSw
      go_simp
      try with_reducible rfl
    simp only [Act.put, List.setIfInBounds_toArray, List.set_cons_zero, List.set_cons_succ]
    refine wpAnyH_take (i := 2) (oi := ⟨_, _, _, _, _, _⟩) (v := ?_) rfl (by kernel_rfl) (by kernel_rfl) (by kernel_rfl) (fun _ _ _ h => h) (Or.inl ⟨by rfl, ?_⟩) (by assumption) ?_
    rotate_left
    · intro wz hSw
      try dsimp only at hSw
      go_simp
      try with_reducible rfl
    simp only [Act.put, List.setIfInBounds_toArray, List.set_cons_zero, List.set_cons_succ]
    refine wpAnyH_take (i := 3) (oi := ⟨_, _, _, _, _, _⟩) (v := ?_) rfl (by kernel_rfl) (by kernel_rfl) (by kernel_rfl) (fun _ _ _ h => h) (Or.inl ⟨by rfl, ?_⟩) (by assumption) ?_
    rotate_left
    · intro wz hSw
      try dsimp only at hSw
      go_simp
      try with_reducible rfl
    simp only [Act.put, List.setIfInBounds_toArray, List.set_cons_zero, List.set_cons_succ]
    refine wpAnyH_take (i := 4) (oi := ⟨_, _, _, _, _, _⟩) (v := ?_) rfl (by kernel_rfl) (by kernel_rfl) (by kernel_rfl) (fun _ _ _ h => h) (Or.inl ⟨by rfl, ?_⟩) (by assumption) ?_
    rotate_left
    · intro wz hSw
      try dsimp only at hSw
      go_simp
      try with_reducible rfl
    simp only [Act.put, List.setIfInBounds_toArray, List.set_cons_zero, List.set_cons_succ]
    refine wpAnyH_take (i := 6) (oi := ⟨_, _, _, _, _, _⟩) (v := ?_) rfl (by kernel_rfl) (by kernel_rfl) (by kernel_rfl) (fun _ _ _ h => h) (Or.inl ⟨by rfl, ?_⟩) (by assumption) ?_
    rotate_left
    · intro wz hSw
      try dsimp only at hSw
      go_simp
      try with_reducible rfl
    simp only [Act.put, List.setIfInBounds_toArray, List.set_cons_zero, List.set_cons_succ]
    refine wpAnyH_ready (rs := [5]) (by kernel_rfl) (by simp) ?_
    refine AllReadyH.cons (o := ⟨_, _, _, _, _, _⟩) rfl (fun K hK => ?_) AllReadyH.nil
    go_simp
    refine (C1.out _).mono ?_
    rintro e w1 ⟨rfl, g⟩
    replace d1 := (g.cell_far ⟨b, o + 1, none⟩ hsb (by simp)).trans d1
    replace e0 := (g.cell_far ⟨Y, 0, none⟩ hsE (by simp)).trans e0
    replace e1 := (g.cell_far ⟨Y, 1, none⟩ hsE (by simp)).trans e1
    replace e2 := (g.cell_far ⟨Y, 2, none⟩ hsE (by simp)).trans e2
    replace e3 := (g.cell_far ⟨Y, 3, none⟩ hsE (by simp)).trans e3
    have HR1 := Lib.hid (HR3.out.kept g)
    have hsb1 := Nat.lt_of_lt_of_le hsb g.size
    have hsE1 := Nat.lt_of_lt_of_le hsE g.size
    clear g hsb hsE
    refine hK.out _ _ ⟨d1, e0, e1, e2, e3⟩ (fun hHeld => ?_)
    clear hK K
    try simp only [Act.put, List.setIfInBounds_toArray, List.set_cons_zero, List.set_cons_succ]
    refine wpAnyH_ready (rs := [7]) (by kernel_rfl) (by simp) ?_
    refine AllReadyH.cons (o := ⟨_, _, _, _, _, _⟩) rfl (fun K hK => ?_) AllReadyH.nil
    go_simp
    have z0 : w1.cell? ⟨X, 0, none⟩ = some (.int .i64 0) := HR1.out.r 0 (by decide)
    have zf0 := HR1.out.rf 0
    have z1 : w1.cell? ⟨X, 1, none⟩ = some (.int .i64 0) := HR1.out.r 1 (by decide)
    have zf1 := HR1.out.rf 1
    have z2 : w1.cell? ⟨X, 2, none⟩ = some (.int .i64 0) := HR1.out.r 2 (by decide)
    have zf2 := HR1.out.rf 2
    have z3 : w1.cell? ⟨X, 3, none⟩ = some (.int .i64 0) := HR1.out.r 3 (by decide)
    have zf3 := HR1.out.rf 3
    have z4 : w1.cell? ⟨X, 4, none⟩ = some (.int .u64 0) := HR1.out.r 4 (by decide)
    have zf4 := HR1.out.rf 4
    have z5 : w1.cell? ⟨X, 5, none⟩ = some (.int .u64 0) := HR1.out.r 5 (by decide)
    have zf5 := HR1.out.rf 5
    have z6 : w1.cell? ⟨X, 6, none⟩ = some (.int .u64 0) := HR1.out.r 6 (by decide)
    have zf6 := HR1.out.rf 6
    have z7 : w1.cell? ⟨X, 7, none⟩ = some (.int .i64 0) := HR1.out.r 7 (by decide)
    have zf7 := HR1.out.rf 7
    have z8 : w1.cell? ⟨X, 8, none⟩ = some (.int .i64 0) := HR1.out.r 8 (by decide)
    have zf8 := HR1.out.rf 8
    try go_simp
    have hoS := put9_only w1 X (.int .i64 1) (.int .i64 (f1 : Int)) (.int .i64 0) (.int .i64 op) (.int .u64 (ca : Nat)) (.int .u64 (cb : Nat)) (.int .u64 (cc : Nat)) (.int .i64 0) (.int .i64 0)
    refine hK.out _ _ ⟨(hoS.cell ⟨b, o + 1, none⟩ hsb1 (by show b < X ∨ X + 1 ≤ b; omega)).trans d1, (hoS.cell ⟨Y, 0, none⟩ hsE1 (by show Y < X ∨ X + 1 ≤ Y; omega)).trans e0, (hoS.cell ⟨Y, 1, none⟩ hsE1 (by show Y < X ∨ X + 1 ≤ Y; omega)).trans e1, (hoS.cell ⟨Y, 2, none⟩ hsE1 (by show Y < X ∨ X + 1 ≤ Y; omega)).trans e2, (hoS.cell ⟨Y, 3, none⟩ hsE1 (by show Y < X ∨ X + 1 ≤ Y; omega)).trans e3⟩ (fun hHeld => ?_)
    clear hK K
    try simp only [Act.put, List.setIfInBounds_toArray, List.set_cons_zero, List.set_cons_succ]
    refine wpAnyH_take (i := 8) (oi := ⟨_, _, _, _, _, _⟩) (v := ?_) rfl (by kernel_rfl) (by kernel_rfl) (by kernel_rfl) (fun _ _ _ h => h) (Or.inl ⟨by rfl, ?_⟩) (by assumption) ?_
    rotate_left
    · intro wz hSw
      try dsimp only at hSw
      go_simp
      try with_reducible rfl
    simp only [Act.put, List.setIfInBounds_toArray, List.set_cons_zero, List.set_cons_succ]
    refine wpAnyH_done (by kernel_rfl) ?_ _
    clear hHeld hoS d1 e0 e1 e2 e3
    go_wp2
    have ho := put9_only w1 X (.int .i64 1) (.int .i64 (f1 : Int)) (.int .i64 0) (.int .i64 op) (.int .u64 (ca : Nat)) (.int .u64 (cb : Nat)) (.int .u64 (cc : Nat)) (.int .i64 0) (.int .i64 0)
    have hy := put9_at (w := w1) (X := X) (.int .i64 1) (.int .i64 (f1 : Int)) (.int .i64 0) (.int .i64 op) (.int .u64 (ca : Nat)) (.int .u64 (cb : Nat)) (.int .u64 (cc : Nat)) (.int .i64 0) (.int .i64 0) (fun i hi => HR1.out.some i hi)
    have y0 : (put9 w1 X (.int .i64 1) (.int .i64 (f1 : Int)) (.int .i64 0) (.int .i64 op) (.int .u64 (ca : Nat)) (.int .u64 (cb : Nat)) (.int .u64 (cc : Nat)) (.int .i64 0) (.int .i64 0)).cell? ⟨X, 0, none⟩ = some (.int .i64 1) := hy 0 (by decide)
    have y1 : (put9 w1 X (.int .i64 1) (.int .i64 (f1 : Int)) (.int .i64 0) (.int .i64 op) (.int .u64 (ca : Nat)) (.int .u64 (cb : Nat)) (.int .u64 (cc : Nat)) (.int .i64 0) (.int .i64 0)).cell? ⟨X, 1, none⟩ = some (.int .i64 (f1 : Int)) := hy 1 (by decide)
    have y2 : (put9 w1 X (.int .i64 1) (.int .i64 (f1 : Int)) (.int .i64 0) (.int .i64 op) (.int .u64 (ca : Nat)) (.int .u64 (cb : Nat)) (.int .u64 (cc : Nat)) (.int .i64 0) (.int .i64 0)).cell? ⟨X, 2, none⟩ = some (.int .i64 0) := hy 2 (by decide)
    have y3 : (put9 w1 X (.int .i64 1) (.int .i64 (f1 : Int)) (.int .i64 0) (.int .i64 op) (.int .u64 (ca : Nat)) (.int .u64 (cb : Nat)) (.int .u64 (cc : Nat)) (.int .i64 0) (.int .i64 0)).cell? ⟨X, 3, none⟩ = some (.int .i64 op) := hy 3 (by decide)
    have y4 : (put9 w1 X (.int .i64 1) (.int .i64 (f1 : Int)) (.int .i64 0) (.int .i64 op) (.int .u64 (ca : Nat)) (.int .u64 (cb : Nat)) (.int .u64 (cc : Nat)) (.int .i64 0) (.int .i64 0)).cell? ⟨X, 4, none⟩ = some (.int .u64 (ca : Nat)) := hy 4 (by decide)
    have y5 : (put9 w1 X (.int .i64 1) (.int .i64 (f1 : Int)) (.int .i64 0) (.int .i64 op) (.int .u64 (ca : Nat)) (.int .u64 (cb : Nat)) (.int .u64 (cc : Nat)) (.int .i64 0) (.int .i64 0)).cell? ⟨X, 5, none⟩ = some (.int .u64 (cb : Nat)) := hy 5 (by decide)
    have y6 : (put9 w1 X (.int .i64 1) (.int .i64 (f1 : Int)) (.int .i64 0) (.int .i64 op) (.int .u64 (ca : Nat)) (.int .u64 (cb : Nat)) (.int .u64 (cc : Nat)) (.int .i64 0) (.int .i64 0)).cell? ⟨X, 6, none⟩ = some (.int .u64 (cc : Nat)) := hy 6 (by decide)
    have y7 : (put9 w1 X (.int .i64 1) (.int .i64 (f1 : Int)) (.int .i64 0) (.int .i64 op) (.int .u64 (ca : Nat)) (.int .u64 (cb : Nat)) (.int .u64 (cc : Nat)) (.int .i64 0) (.int .i64 0)).cell? ⟨X, 7, none⟩ = some (.int .i64 0) := hy 7 (by decide)
    have y8 : (put9 w1 X (.int .i64 1) (.int .i64 (f1 : Int)) (.int .i64 0) (.int .i64 op) (.int .u64 (ca : Nat)) (.int .u64 (cb : Nat)) (.int .u64 (cc : Nat)) (.int .i64 0) (.int .i64 0)).cell? ⟨X, 8, none⟩ = some (.int .i64 0) := hy 8 (by decide)
    change bodyPost _ _ _ _ _ (put9 w1 X (.int .i64 1) (.int .i64 (f1 : Int)) (.int .i64 0) (.int .i64 op) (.int .u64 (ca : Nat)) (.int .u64 (cb : Nat)) (.int .u64 (cc : Nat)) (.int .i64 0) (.int .i64 0))
    clear hy
    generalize put9 w1 X (.int .i64 1) (.int .i64 (f1 : Int)) (.int .i64 0) (.int .i64 op) (.int .u64 (ca : Nat)) (.int .u64 (cb : Nat)) (.int .u64 (cc : Nat)) (.int .i64 0) (.int .i64 0) = wF at *
    exact bodyPost_ret (v := .tuple #[.agg #[.int .i64 1, .int .i64 (f1 : Int), .int .i64 0, .int .i64 op, .int .u64 (ca : Nat), .int .u64 (cb : Nat), .int .u64 (cc : Nat), .int .i64 0, .int .i64 0], .bool ok]) (by simp [results, Tryd.results42, go_sem, y0, y1, y2, y3, y4, y5, y6, y7, y8]) rfl ⟨rfl, Only.on HR1.out.g ho HR1.out.xw⟩
  · skip
    go_enter Tryd.func42, Tryd.ntmps42
    go_wp2_with fail
    go_quiet (fail)
    have HR := Lib.hid ((rese_new (World.grownBy.refl w none)).kept (⟨rfl, rfl, rfl, Nat.le_refl _, fun _ _ _ => rfl⟩ : (w.alloc (.cells #[.int .i64 0, .int .i64 0, .int .i64 0, .int .i64 0, .int .u64 0, .int .u64 0, .int .u64 0, .int .i64 0, .int .i64 0] 55)).grownBy ((w.alloc (.cells #[.int .i64 0, .int .i64 0, .int .i64 0, .int .i64 0, .int .u64 0, .int .u64 0, .int .u64 0, .int .i64 0, .int .i64 0] 55)).drewN nq) none))
    have hwX : w.heap.size ≤ w.heap.size := Nat.le_refl _
    have c1' : ((w.alloc (.cells #[.int .i64 0, .int .i64 0, .int .i64 0, .int .i64 0, .int .u64 0, .int .u64 0, .int .u64 0, .int .i64 0, .int .i64 0] 55)).drewN nq).cell? ⟨b, o + 1, none⟩ = some (.int .u8 (f1 : Int)) := c1
    have hbw : b < ((w.alloc (.cells #[.int .i64 0, .int .i64 0, .int .i64 0, .int .i64 0, .int .u64 0, .int .u64 0, .int .u64 0, .int .i64 0, .int .i64 0] 55)).drewN nq).heap.size := hb0
    have hbX : b ≠ w.heap.size := by omega
    clear c0 c1 hb0 k1
    generalize (w.alloc (.cells #[.int .i64 0, .int .i64 0, .int .i64 0, .int .i64 0, .int .u64 0, .int .u64 0, .int .u64 0, .int .i64 0, .int .i64 0] 55)).drewN nq = wr at *
    generalize hXX : w.heap.size = X at *
    clear hXX hwX
    go_wp2_with fail
    refine (CR.out _ _ _ HR.out.g (Or.inl rfl) (by omega)).mono ?_
    rintro e w2 ⟨rfl, g⟩
    have HR2 := Lib.hid (HR.out.kept g)
    have kb := World.grownBy_alloc w2 (.cells #[.int .i64 op, .int .u64 (ca : Nat), .int .u64 (cb : Nat), .int .u64 (cc : Nat)] 24) none
    have d1 : (w2.alloc (.cells #[.int .i64 op, .int .u64 (ca : Nat), .int .u64 (cb : Nat), .int .u64 (cc : Nat)] 24)).drew.cell? ⟨b, o + 1, none⟩ = some (.int .u8 (f1 : Int)) := ((g.trans kb).cell_far ⟨b, o + 1, none⟩ hbw (by simp)).trans c1'
    have e0 : (w2.alloc (.cells #[.int .i64 op, .int .u64 (ca : Nat), .int .u64 (cb : Nat), .int .u64 (cc : Nat)] 24)).drew.cell? ⟨w2.heap.size, 0, none⟩ = some (.int .i64 op) := World.cell?_alloc_new ..
    have e1 : (w2.alloc (.cells #[.int .i64 op, .int .u64 (ca : Nat), .int .u64 (cb : Nat), .int .u64 (cc : Nat)] 24)).drew.cell? ⟨w2.heap.size, 1, none⟩ = some (.int .u64 (ca : Nat)) := World.cell?_alloc_new ..
    have e2 : (w2.alloc (.cells #[.int .i64 op, .int .u64 (ca : Nat), .int .u64 (cb : Nat), .int .u64 (cc : Nat)] 24)).drew.cell? ⟨w2.heap.size, 2, none⟩ = some (.int .u64 (cb : Nat)) := World.cell?_alloc_new ..
    have e3 : (w2.alloc (.cells #[.int .i64 op, .int .u64 (ca : Nat), .int .u64 (cb : Nat), .int .u64 (cc : Nat)] 24)).drew.cell? ⟨w2.heap.size, 3, none⟩ = some (.int .u64 (cc : Nat)) := World.cell?_alloc_new ..
    have hsE : w2.heap.size < (w2.alloc (.cells #[.int .i64 op, .int .u64 (ca : Nat), .int .u64 (cb : Nat), .int .u64 (cc : Nat)] 24)).drew.heap.size := by show _ < (w2.alloc _).heap.size; simp
    have hsb : b < (w2.alloc (.cells #[.int .i64 op, .int .u64 (ca : Nat), .int .u64 (cb : Nat), .int .u64 (cc : Nat)] 24)).drew.heap.size := Nat.lt_of_lt_of_le (Nat.lt_of_lt_of_le hbw g.size) kb.size
    have HR3 := Lib.hid ((HR2.out.kept kb).kept (⟨rfl, rfl, rfl, Nat.le_refl _, fun _ _ _ => rfl⟩ : (w2.alloc (.cells #[.int .i64 op, .int .u64 (ca : Nat), .int .u64 (cb : Nat), .int .u64 (cc : Nat)] 24)).grownBy (w2.alloc (.cells #[.int .i64 op, .int .u64 (ca : Nat), .int .u64 (cb : Nat), .int .u64 (cc : Nat)] 24)).drew none))
    have hneE : w2.heap.size ≠ X := by have := HR2.out.sz; omega
    clear g c1' kb
    go_wp2_with fail
    generalize w2.alloc (.cells #[.int .i64 op, .int .u64 (ca : Nat), .int .u64 (cb : Nat), .int .u64 (cc : Nat)] 24) = w3 at *
    generalize w2.heap.size = Y at *
    refine wp_region_held_drew (S := fun w' => w'.cell? ⟨b, o + 1, none⟩ = some (.int .u8 (f1 : Int)) ∧ w'.cell? ⟨Y, 0, none⟩ = some (.int .i64 op) ∧ w'.cell? ⟨Y, 1, none⟩ = some (.int .u64 (ca : Nat)) ∧ w'.cell? ⟨Y, 2, none⟩ = some (.int .u64 (cb : Nat)) ∧ w'.cell? ⟨Y, 3, none⟩ = some (.int .u64 (cc : Nat))) (by kernel_rfl) ⟨d1, e0, e1, e2, e3⟩ (fun hHeld => ?_)
    refine wpAnyH_take (i := 0) (oi := ⟨_, _, _, _, _, _⟩) (v := ?_) rfl (by kernel_rfl) (by kernel_rfl) (by kernel_rfl) (fun _ _ _ h => h) (Or.inl ⟨by rfl, ?_⟩) (by assumption) ?_
    rotate_left
    · intro wz hSw
      try dsimp only at hSw
      go_simp
      try with_reducible rfl
    simp only [Act.put, List.setIfInBounds_toArray, List.set_cons_zero, List.set_cons_succ]
    refine wpAnyH_take (i := 1) (oi := ⟨_, _, _, _, _, _⟩) (v := ?_) rfl (by kernel_rfl) (by kernel_rfl) (by kernel_rfl) (fun _ _ _ h => h) (Or.inl ⟨by rfl, ?_⟩) (by assumption) ?_
    rotate_left
    · intro wz hSw
      try dsimp only at hSw
      go_simp
      try with_reducible rfl
    simp only [Act.put, List.setIfInBounds_toArray, List.set_cons_zero, List.set_cons_succ]
    refine wpAnyH_take (i := 2) (oi := ⟨_, _, _, _, _, _⟩) (v := ?_) rfl (by kernel_rfl) (by kernel_rfl) (by kernel_rfl) (fun _ _ _ h => h) (Or.inl ⟨by rfl, ?_⟩) (by assumption) ?_
    rotate_left
    · intro wz hSw
      try dsimp only at hSw
      go_simp
      try with_reducible rfl
    simp only [Act.put, List.setIfInBounds_toArray, List.set_cons_zero, List.set_cons_succ]
    refine wpAnyH_take (i := 3) (oi := ⟨_, _, _, _, _, _⟩) (v := ?_) rfl (by kernel_rfl) (by kernel_rfl) (by kernel_rfl) (fun _ _ _ h => h) (Or.inl ⟨by rfl, ?_⟩) (by assumption) ?_
    rotate_left
    · intro wz hSw
      try dsimp only at hSw
      go_simp
      try with_reducible rfl
    simp only [Act.put, List.setIfInBounds_toArray, List.set_cons_zero, List.set_cons_succ]
    refine wpAnyH_take (i := 4) (oi := ⟨_, _, _, _, _, _⟩) (v := ?_) rfl (by kernel_rfl) (by kernel_rfl) (by kernel_rfl) (fun _ _ _ h => h) (Or.inl ⟨by rfl, ?_⟩) (by assumption) ?_
    rotate_left
    · intro wz hSw
      try dsimp only at hSw
      go_simp
      try with_reducible rfl
    simp only [Act.put, List.setIfInBounds_toArray, List.set_cons_zero, List.set_cons_succ]
    refine wpAnyH_take (i := 6) (oi := ⟨_, _, _, _, _, _⟩) (v := ?_) rfl (by kernel_rfl) (by kernel_rfl) (by kernel_rfl) (fun _ _ _ h => h) (Or.inl ⟨by rfl, ?_⟩) (by assumption) ?_
    rotate_left
    · intro wz hSw
      try dsimp only at hSw
      go_simp
      try with_reducible rfl
    simp only [Act.put, List.setIfInBounds_toArray, List.set_cons_zero, List.set_cons_succ]
    refine wpAnyH_ready (rs := [5]) (by kernel_rfl) (by simp) ?_
    refine AllReadyH.cons (o := ⟨_, _, _, _, _, _⟩) rfl (fun K hK => ?_) AllReadyH.nil
    go_simp
    refine (C1.out _).mono ?_
    rintro e w1 ⟨rfl, g⟩
    replace d1 := (g.cell_far ⟨b, o + 1, none⟩ hsb (by simp)).trans d1
    replace e0 := (g.cell_far ⟨Y, 0, none⟩ hsE (by simp)).trans e0
    replace e1 := (g.cell_far ⟨Y, 1, none⟩ hsE (by simp)).trans e1
    replace e2 := (g.cell_far ⟨Y, 2, none⟩ hsE (by simp)).trans e2
    replace e3 := (g.cell_far ⟨Y, 3, none⟩ hsE (by simp)).trans e3
    have HR1 := Lib.hid (HR3.out.kept g)
    have hsb1 := Nat.lt_of_lt_of_le hsb g.size
    have hsE1 := Nat.lt_of_lt_of_le hsE g.size
    clear g hsb hsE
    refine hK.out _ _ ⟨d1, e0, e1, e2, e3⟩ (fun hHeld => ?_)
    clear hK K
    try simp only [Act.put, List.setIfInBounds_toArray, List.set_cons_zero, List.set_cons_succ]
    refine wpAnyH_ready (rs := [7]) (by kernel_rfl) (by simp) ?_
    refine AllReadyH.cons (o := ⟨_, _, _, _, _, _⟩) rfl (fun K hK => ?_) AllReadyH.nil
    go_simp
    have z0 : w1.cell? ⟨X, 0, none⟩ = some (.int .i64 0) := HR1.out.r 0 (by decide)
    have zf0 := HR1.out.rf 0
    have z1 : w1.cell? ⟨X, 1, none⟩ = some (.int .i64 0) := HR1.out.r 1 (by decide)
    have zf1 := HR1.out.rf 1
    have z2 : w1.cell? ⟨X, 2, none⟩ = some (.int .i64 0) := HR1.out.r 2 (by decide)
    have zf2 := HR1.out.rf 2
    have z3 : w1.cell? ⟨X, 3, none⟩ = some (.int .i64 0) := HR1.out.r 3 (by decide)
    have zf3 := HR1.out.rf 3
    have z4 : w1.cell? ⟨X, 4, none⟩ = some (.int .u64 0) := HR1.out.r 4 (by decide)
    have zf4 := HR1.out.rf 4
    have z5 : w1.cell? ⟨X, 5, none⟩ = some (.int .u64 0) := HR1.out.r 5 (by decide)
    have zf5 := HR1.out.rf 5
    have z6 : w1.cell? ⟨X, 6, none⟩ = some (.int .u64 0) := HR1.out.r 6 (by decide)
    have zf6 := HR1.out.rf 6
    have z7 : w1.cell? ⟨X, 7, none⟩ = some (.int .i64 0) := HR1.out.r 7 (by decide)
    have zf7 := HR1.out.rf 7
    have z8 : w1.cell? ⟨X, 8, none⟩ = some (.int .i64 0) := HR1.out.r 8 (by decide)
    have zf8 := HR1.out.rf 8
    try go_simp
    have hoS := put9_only w1 X (.int .i64 1) (.int .i64 (f1 : Int)) (.int .i64 0) (.int .i64 op) (.int .u64 (ca : Nat)) (.int .u64 (cb : Nat)) (.int .u64 (cc : Nat)) (.int .i64 0) (.int .i64 0)
    refine hK.out _ _ ⟨(hoS.cell ⟨b, o + 1, none⟩ hsb1 (by show b < X ∨ X + 1 ≤ b; omega)).trans d1, (hoS.cell ⟨Y, 0, none⟩ hsE1 (by show Y < X ∨ X + 1 ≤ Y; omega)).trans e0, (hoS.cell ⟨Y, 1, none⟩ hsE1 (by show Y < X ∨ X + 1 ≤ Y; omega)).trans e1, (hoS.cell ⟨Y, 2, none⟩ hsE1 (by show Y < X ∨ X + 1 ≤ Y; omega)).trans e2, (hoS.cell ⟨Y, 3, none⟩ hsE1 (by show Y < X ∨ X + 1 ≤ Y; omega)).trans e3⟩ (fun hHeld => ?_)
    clear hK K
    try simp only [Act.put, List.setIfInBounds_toArray, List.set_cons_zero, List.set_cons_succ]
    refine wpAnyH_take (i := 8) (oi := ⟨_, _, _, _, _, _⟩) (v := ?_) rfl (by kernel_rfl) (by kernel_rfl) (by kernel_rfl) (fun _ _ _ h => h) (Or.inl ⟨by rfl, ?_⟩) (by assumption) ?_
    rotate_left
    · intro wz hSw
      try dsimp only at hSw
      go_simp
      try with_reducible rfl
    simp only [Act.put, List.setIfInBounds_toArray, List.set_cons_zero, List.set_cons_succ]
    refine wpAnyH_done (by kernel_rfl) ?_ _
    clear hHeld hoS d1 e0 e1 e2 e3
    go_wp2
    have ho := put9_only w1 X (.int .i64 1) (.int .i64 (f1 : Int)) (.int .i64 0) (.int .i64 op) (.int .u64 (ca : Nat)) (.int .u64 (cb : Nat)) (.int .u64 (cc : Nat)) (.int .i64 0) (.int .i64 0)
    have hy := put9_at (w := w1) (X := X) (.int .i64 1) (.int .i64 (f1 : Int)) (.int .i64 0) (.int .i64 op) (.int .u64 (ca : Nat)) (.int .u64 (cb : Nat)) (.int .u64 (cc : Nat)) (.int .i64 0) (.int .i64 0) (fun i hi => HR1.out.some i hi)
    have y0 : (put9 w1 X (.int .i64 1) (.int .i64 (f1 : Int)) (.int .i64 0) (.int .i64 op) (.int .u64 (ca : Nat)) (.int .u64 (cb : Nat)) (.int .u64 (cc : Nat)) (.int .i64 0) (.int .i64 0)).cell? ⟨X, 0, none⟩ = some (.int .i64 1) := hy 0 (by decide)
    have y1 : (put9 w1 X (.int .i64 1) (.int .i64 (f1 : Int)) (.int .i64 0) (.int .i64 op) (.int .u64 (ca : Nat)) (.int .u64 (cb : Nat)) (.int .u64 (cc : Nat)) (.int .i64 0) (.int .i64 0)).cell? ⟨X, 1, none⟩ = some (.int .i64 (f1 : Int)) := hy 1 (by decide)
    have y2 : (put9 w1 X (.int .i64 1) (.int .i64 (f1 : Int)) (.int .i64 0) (.int .i64 op) (.int .u64 (ca : Nat)) (.int .u64 (cb : Nat)) (.int .u64 (cc : Nat)) (.int .i64 0) (.int .i64 0)).cell? ⟨X, 2, none⟩ = some (.int .i64 0) := hy 2 (by decide)
    have y3 : (put9 w1 X (.int .i64 1) (.int .i64 (f1 : Int)) (.int .i64 0) (.int .i64 op) (.int .u64 (ca : Nat)) (.int .u64 (cb : Nat)) (.int .u64 (cc : Nat)) (.int .i64 0) (.int .i64 0)).cell? ⟨X, 3, none⟩ = some (.int .i64 op) := hy 3 (by decide)
    have y4 : (put9 w1 X (.int .i64 1) (.int .i64 (f1 : Int)) (.int .i64 0) (.int .i64 op) (.int .u64 (ca : Nat)) (.int .u64 (cb : Nat)) (.int .u64 (cc : Nat)) (.int .i64 0) (.int .i64 0)).cell? ⟨X, 4, none⟩ = some (.int .u64 (ca : Nat)) := hy 4 (by decide)
    have y5 : (put9 w1 X (.int .i64 1) (.int .i64 (f1 : Int)) (.int .i64 0) (.int .i64 op) (.int .u64 (ca : Nat)) (.int .u64 (cb : Nat)) (.int .u64 (cc : Nat)) (.int .i64 0) (.int .i64 0)).cell? ⟨X, 5, none⟩ = some (.int .u64 (cb : Nat)) := hy 5 (by decide)
    have y6 : (put9 w1 X (.int .i64 1) (.int .i64 (f1 : Int)) (.int .i64 0) (.int .i64 op) (.int .u64 (ca : Nat)) (.int .u64 (cb : Nat)) (.int .u64 (cc : Nat)) (.int .i64 0) (.int .i64 0)).cell? ⟨X, 6, none⟩ = some (.int .u64 (cc : Nat)) := hy 6 (by decide)
    have y7 : (put9 w1 X (.int .i64 1) (.int .i64 (f1 : Int)) (.int .i64 0) (.int .i64 op) (.int .u64 (ca : Nat)) (.int .u64 (cb : Nat)) (.int .u64 (cc : Nat)) (.int .i64 0) (.int .i64 0)).cell? ⟨X, 7, none⟩ = some (.int .i64 0) := hy 7 (by decide)
    have y8 : (put9 w1 X (.int .i64 1) (.int .i64 (f1 : Int)) (.int .i64 0) (.int .i64 op) (.int .u64 (ca : Nat)) (.int .u64 (cb : Nat)) (.int .u64 (cc : Nat)) (.int .i64 0) (.int .i64 0)).cell? ⟨X, 8, none⟩ = some (.int .i64 0) := hy 8 (by decide)
    change bodyPost _ _ _ _ _ (put9 w1 X (.int .i64 1) (.int .i64 (f1 : Int)) (.int .i64 0) (.int .i64 op) (.int .u64 (ca : Nat)) (.int .u64 (cb : Nat)) (.int .u64 (cc : Nat)) (.int .i64 0) (.int .i64 0))
    clear hy
    generalize put9 w1 X (.int .i64 1) (.int .i64 (f1 : Int)) (.int .i64 0) (.int .i64 op) (.int .u64 (ca : Nat)) (.int .u64 (cb : Nat)) (.int .u64 (cc : Nat)) (.int .i64 0) (.int .i64 0) = wF at *
    exact bodyPost_ret (v := .tuple #[.agg #[.int .i64 1, .int .i64 (f1 : Int), .int .i64 0, .int .i64 op, .int .u64 (ca : Nat), .int .u64 (cb : Nat), .int .u64 (cc : Nat), .int .i64 0, .int .i64 0], .bool ok]) (by simp [results, Tryd.results42, go_sem, y0, y1, y2, y3, y4, y5, y6, y7, y8]) rfl ⟨rfl, Only.on HR1.out.g ho HR1.out.xw⟩

theorem wparse {w : World} {v : Value} {F : List Nat} (H : ReadsB w v F) (HT : FormsAt w) :
    Calls Tryd.prog 42 #[v] w fun r w' => r = .returned (.tuple #[(pE F).1.val, .bool (pE F).2]) ∧ w.grownBy w' none := by
  by_cases hl : F.length = 0
  · have hp : pE F = (zE, false) := by
      have : F = [] := List.eq_nil_of_length_eq_zero hl
      subst this; rfl
    rw [hp]
    exact wparse_0 H hl
  unfold pE
  by_cases h1 : F.getD 0 0 = 0 ∧ F.length = 3
  · rw [if_pos h1]; exact wparse_t H h1.2 h1.1
  rw [if_neg h1]
  by_cases h2 : F.getD 0 0 = 1 ∧ 2 ≤ F.length
  · rw [if_pos h2]; exact wparse_a H HT h2.2 h2.1
  rw [if_neg h2]
  by_cases h3 : F.getD 0 0 = 2 ∧ F.length = 4
  · rw [if_pos h3]; exact wparse_r H h3.2 h3.1
  rw [if_neg h3]
  exact wparse_x H (by omega) h1 h2 h3

end Go.Proofs.YtcnojgkolpdomaaDoor
