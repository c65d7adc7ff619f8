/-
  A plan's Next and Kth; the statements' first test 'alive'; a plan laid into a box.
-/
import Derived.Test.YtacdmolkagcafaaPlanO
namespace Go.Proofs.Ytacdmolkagcafaa
open Go.RowKit Go.Lib
set_option maxRecDepth 100000
set_option linter.unusedVariables false

/-- A whole plan out of its box, where the order hangs on a test. -/
theorem load_plan_g {rest : List Oper} {ops : Array Oper} {dst : Option Nat} {tt : TypeId} {ps : String} {af : Array Edge} {gd : Option (Nat × Bool)} {x : Operand} {f : Act} {w : World} {Q : Exit → Act → World → Prop} (b : Nat) (a : Array Value) (hr : w.rangeAt b 0 a.toList) (hs : a.size = 130)
    (hx : f.eval x = .pointer (some ⟨b, 0, none⟩)) (hw : Region.wanted { dst := dst, op := .load 29 x, type := tt, pos := ps, after := af, guard := gd } (yielded ops f.tmps) = true) (hyp : wpList Try.prog ops Q rest (f.put dst (.agg a)) w) :
    wpList Try.prog ops Q ({ dst := dst, op := .load 29 x, type := tt, pos := ps, after := af, guard := gd } :: rest) f w :=
  wpList_step fun K hK => by
    rw [if_pos hw]
    refine wp_load_mid 29 x rfl b 0 hx a.toList _ hr Try.underlying29 rfl (by rw [plan_info]; simp [hs]) ?_
    exact hK _ _ (by simpa using hyp)

theorem rangeAt_kept {w w' : World} {b : Nat} {cs : List Value} (h : w.rangeAt b 0 cs) (k : w.grownBy w' none) : w'.rangeAt b 0 cs := fun j v hv => k.cell (h j v hv) (by simp)

/-- A plan that is laid into a new box. -/
theorem laid_plan (w : World) (zp a : Array Value) (hz : zp.size = 130) (hs : a.size = 130) :
    ((w.alloc (.cells zp 29)).setCells w.heap.size 0 a.toList).rangeAt w.heap.size 0 a.toList ∧ w.grownBy ((w.alloc (.cells zp 29)).setCells w.heap.size 0 a.toList) none :=
  ⟨World.rangeAt_setCells_same _ _ 0 _ (by simpa [hs] using there_new w zp 29 130 hz), Only.on (World.grownBy_alloc w (.cells zp 29) none) (only_setCells _ _ _ _) (Nat.le_refl _)⟩

set_option maxHeartbeats 1000000 in
theorem next_few {a : Array Value} {O : Nat → Int} {L : Nat → Nat} {n C : Nat} (h : PlV a O L n C) (who : Int) (t : Nat) (hk : ownN O n who n = 0) (w : World) :
    Calls Try.prog 16 #[.agg a, .int .i64 who, .int .u64 t] w fun e w' => e = .returned (.tuple #[.int .u64 0, .int .u64 0, .bool false]) ∧ w.grownBy w' none := by
  have hs := h.size
  have k0 := Lib.hid (World.grownBy_alloc w (.cells a 29) none)
  have hr := Lib.hid (PlV.range (a := a) w 29)
  have HF := Lib.hid (find_few h who 1 t (Or.inr hk) (w.alloc (.cells a 29)))
  clear h hk
  go_enter Try.func16, Try.ntmps16
  go_wp2_with (refine load_plan w.heap.size a hr.out hs rfl ?_)
  refine HF.out.mono ?_
  rintro e w1 ⟨rfl, k1⟩
  have K1 := Lib.hid (k0.out.trans k1)
  clear HF hr k0 k1
  go_wp2
  go_ret3
  exact ⟨rfl, K1.out⟩

theorem next_at {a : Array Value} {O : Nat → Int} {L : Nat → Nat} {n C : Nat} (h : PlV a O L n C) {who : Int} {P E m : Nat → Nat} (T : TurnsOf O L n who P E m) (t : Nat) (ht : t < 18446744073709551616) (w : World) (x y : Nat) (b : Bool)
    (hb : if E (m t) < 18446744073709551616 then b = true ∧ x = P (m t) ∧ y = E (m t) else b = false ∧ x = 0 ∧ y = 0) :
    Calls Try.prog 16 #[.agg a, .int .i64 who, .int .u64 t] w fun e w' => e = .returned (.tuple #[.int .u64 (x : Int), .int .u64 (y : Int), .bool b]) ∧ w.grownBy w' none := by
  have hs := h.size
  have k0 := Lib.hid (World.grownBy_alloc w (.cells a 29) none)
  have hr := Lib.hid (PlV.range (a := a) w 29)
  have HF := Lib.hid (find_at h T 0 t (by omega) ht (w.alloc (.cells a 29)) #[.int .u64 (x : Int), .int .u64 (y : Int), .bool b] (by
    rw [Nat.add_zero]
    split
    · rename_i h1; rw [if_pos h1] at hb; obtain ⟨rfl, rfl, rfl⟩ := hb; rfl
    · rename_i h1; rw [if_neg h1] at hb; obtain ⟨rfl, rfl, rfl⟩ := hb; rfl))
  clear h hb T
  go_enter Try.func16, Try.ntmps16
  go_wp2_with (refine load_plan w.heap.size a hr.out hs rfl ?_)
  refine HF.out.mono ?_
  rintro e w1 ⟨rfl, k1⟩
  have K1 := Lib.hid (k0.out.trans k1)
  clear HF hr k0 k1
  go_wp2
  go_ret3
  exact ⟨rfl, K1.out⟩

set_option maxHeartbeats 1000000 in
theorem kth_few {a : Array Value} {O : Nat → Int} {L : Nat → Nat} {n C : Nat} (h : PlV a O L n C) (who k : Int) (t : Nat) (hk : k < 1 ∨ ownN O n who n = 0) (w : World) :
    Calls Try.prog 18 #[.agg a, .int .i64 who, .int .u64 t, .int .i64 k] w fun e w' => e = .returned (.tuple #[.int .u64 0, .bool false]) ∧ w.grownBy w' none := by
  have hs := h.size
  have k0 := Lib.hid (World.grownBy_alloc w (.cells a 29) none)
  have hr := Lib.hid (PlV.range (a := a) w 29)
  have HF := Lib.hid (find_few h who k t hk (w.alloc (.cells a 29)))
  clear h hk
  go_enter Try.func18, Try.ntmps18
  go_wp2_with (refine load_plan w.heap.size a hr.out hs rfl ?_)
  refine HF.out.mono ?_
  rintro e w1 ⟨rfl, k1⟩
  have K1 := Lib.hid (k0.out.trans k1)
  clear HF hr k0 k1
  go_wp2
  go_ret2
  exact ⟨rfl, K1.out⟩

set_option maxHeartbeats 1000000 in
theorem kth_at {a : Array Value} {O : Nat → Int} {L : Nat → Nat} {n C : Nat} (h : PlV a O L n C) {who : Int} {P E m : Nat → Nat} (T : TurnsOf O L n who P E m) (k t : Nat) (hk : k + 1 < 9223372036854775808) (ht : t < 18446744073709551616) (w : World) (y : Nat) (b : Bool)
    (hb : if E (m t + k) < 18446744073709551616 then b = true ∧ y = E (m t + k) else b = false ∧ y = 0) :
    Calls Try.prog 18 #[.agg a, .int .i64 who, .int .u64 t, .int .i64 ((k + 1 : Nat) : Int)] w fun e w' => e = .returned (.tuple #[.int .u64 (y : Int), .bool b]) ∧ w.grownBy w' none := by
  have hs := h.size
  have k0 := Lib.hid (World.grownBy_alloc w (.cells a 29) none)
  have hr := Lib.hid (PlV.range (a := a) w 29)
  have HF := Lib.hid (find_at h T k t hk ht (w.alloc (.cells a 29)) #[.int .u64 ((if E (m t + k) < 18446744073709551616 then P (m t + k) else 0 : Nat) : Int), .int .u64 (y : Int), .bool b] (by
    split
    · rename_i h1; rw [if_pos h1] at hb; obtain ⟨rfl, rfl⟩ := hb; rfl
    · rename_i h1; rw [if_neg h1] at hb; obtain ⟨rfl, rfl⟩ := hb; rfl))
  generalize (if E (m t + k) < 18446744073709551616 then P (m t + k) else 0) = x at HF
  obtain ⟨kz, hkz⟩ : ∃ kz : Int, ((k + 1 : Nat) : Int) = kz := ⟨_, rfl⟩
  rw [hkz] at HF ⊢
  clear h hb T hkz hk
  go_enter Try.func18, Try.ntmps18
  go_wp2_with (refine load_plan w.heap.size a hr.out hs rfl ?_)
  refine HF.out.mono ?_
  rintro e w1 ⟨rfl, k1⟩
  have K1 := Lib.hid (k0.out.trans k1)
  clear HF hr k0 k1
  go_wp2
  go_ret2
  exact ⟨rfl, K1.out⟩
end Go.Proofs.Ytacdmolkagcafaa
