/-
  BoxPlays: a step of the law ('does'), over this seat's translation.
-/
import Derived.Test.YtijgdlanjhcabaaPlaysPS
import Derived.Test.YtijgdlanjhcabaaBox8I
import Derived.Deep.RegionHeld3
namespace Go.Proofs.Ytijgdlanjhcabaa
open Go.RowKit Go.Lib Go.Conc
set_option maxRecDepth 100000
set_option linter.unusedVariables false
section
variable {W w w' : World} {tb ba ca na bb cb nb : Nat} {LA LB : List (Nat × Int)} {vx vy : Value} {X Y : List Int}
theorem PS.cells (H : PS W w tb ba ca na bb cb nb LA LB vx vy X Y) : w.cell? ⟨tb, 0, none⟩ = some (.pointer (some ⟨ba, 0, none⟩)) ∧ w.cell? ⟨tb, 1, none⟩ = some (.pointer (some ⟨bb, 0, none⟩)) ∧ w.cell? ⟨tb, 2, none⟩ = some vx ∧ w.cell? ⟨tb, 3, none⟩ = some vy ∧ w.cell? ⟨tb, 4, none⟩ = some (.int .i64 (na : Nat)) ∧ w.cell? ⟨tb, 5, none⟩ = some (.int .i64 (nb : Nat)) ∧ w.frozen? ⟨tb, 2, none⟩ = false ∧ w.frozen? ⟨tb, 3, none⟩ = false :=
  ⟨BI.cell_blk H.t 0, BI.cell_blk H.t 1, BI.cell_blk H.t 2, BI.cell_blk H.t 3, BI.cell_blk H.t 4, BI.cell_blk H.t 5, BI.frozen_blk H.t 2, BI.frozen_blk H.t 3⟩
/-- The law's struct, whatever waits: the document's lists are what waits. -/
def PQ (W w : World) (tb ba ca na bb cb nb : Nat) : Prop := ∃ LA LB vx vy X Y, PS W w tb ba ca na bb cb nb LA LB vx vy X Y ∧ LA.map Prod.snd = X ∧ LB.map Prod.snd = Y
/-- A step's own box. -/
def OpAt (w : World) (ob : Nat) (kd z : Int) (ot : Bool) : Prop := w.heap[ob]? = some (.cells #[.int .i64 kd, .int .i64 z, .bool ot] 32 (0, 0))
theorem OpAt.cells {ob : Nat} {kd z : Int} {ot : Bool} (h : OpAt w ob kd z ot) : w.cell? ⟨ob, 0, none⟩ = some (.int .i64 kd) ∧ w.cell? ⟨ob, 1, none⟩ = some (.int .i64 z) ∧ w.cell? ⟨ob, 2, none⟩ = some (.bool ot) := ⟨BI.cell_blk h 0, BI.cell_blk h 1, BI.cell_blk h 2⟩
theorem OpAt.kept {ob : Nat} {kd z : Int} {ot : Bool} (h : OpAt w ob kd z ot) (k : w.grownBy w' none) : OpAt w' ob kd z ot := (k.block _ (BI.blk_lt h) (by simp)).trans h
theorem OpAt.set {ob : Nat} {kd z : Int} {ot : Bool} (h : OpAt w ob kd z ot) (hn : tb < ob) (o : Nat) (u : Value) : OpAt (w.setCell ⟨tb, o, none⟩ u) ob kd z ot := (Below.heap_setCell w ⟨tb, o, none⟩ u ob (by show ob ≠ tb; omega)).trans h
theorem OpAt.on {ob c : Nat} {kd z : Int} {ot : Bool} (h : OpAt w ob kd z ot) (k : Only c (c + 1) w w') (hc : ∀ a t fr, w.heap[c]? ≠ some (.cells a t fr)) : OpAt w' ob kd z ot := (k.block ob (BI.blk_lt h) (by
  have : ob ≠ c := fun e => hc _ _ _ (by rw [← e]; exact h)
  omega)).trans h
theorem grown_drew (w : World) : w.grownBy w.drew none := ⟨rfl, rfl, rfl, Nat.le_refl _, fun _ _ _ => rfl⟩
theorem does1 (ob : Nat) (kd z y : Int) (ot : Bool) (h : w.heap[ob]? = some (.cells #[.int .i64 kd, .int .i64 z, .bool ot] 32 (0, 0))) : Calls Try.prog 30 #[.int .i64 y, .pointer (some ⟨ob, 0, none⟩)] w fun e w' => e = .returned (.bool (isnt z y)) ∧ w = w' := by
  have c1 : w.cell? ⟨ob, 1, none⟩ = some (.int .i64 z) := BI.cell_blk h 1
  have e : isnt z y = (y != z) := by unfold isnt; by_cases h : y = z <;> simp [h]
  rw [e]
  clear h e
  go_enter Try.func30, Try.ntmps30
  go_wp2
  go_ret
  exact ⟨rfl, rfl⟩

set_option maxRecDepth 100000 in
set_option maxHeartbeats 8000000 in
theorem does_post_a_ok (z : Int) (hl : LA.length < na) (H : PS W w tb ba ca na bb cb nb LA LB vx vy X Y) (hex : LA.map Prod.snd = X) (hey : LB.map Prod.snd = Y) :
    Calls Try.prog 10 #[.pointer (some ⟨tb, 0, none⟩), .agg #[.int .i64 0, .int .i64 z, .bool false]] w fun e w' => e = .returned (.bool true) ∧ PQ W w' tb ba ca na bb cb nb := by
  have hmf : ∀ (fn : Fn) (first cap : Array Value) (w : World), (Instr.makeFunc fn first cap).run Try.prog w = .ok (.func fn first cap) w := fun _ _ _ _ => rfl
  have ko := World.grownBy_alloc w (.cells #[.int .i64 0, .int .i64 z, .bool false] 32) none
  have HO0 : Hid (OpAt (w.alloc (.cells #[.int .i64 0, .int .i64 z, .bool false] 32)) w.heap.size 0 z false) := Lib.hid (heap_alloc_new w (.cells #[.int .i64 0, .int .i64 z, .bool false] 32))
  have HP0 := Lib.hid (H.kept ko)
  have HTO : Hid (tb < w.heap.size) := Lib.hid (BI.blk_lt H.t)
  have HEX := Lib.hid hex
  have HEY := Lib.hid hey
  obtain ⟨ax, cx, rfl, _, _, _⟩ := id H.rx
  obtain ⟨ay, cy, rfl, _, _, _⟩ := id H.ry
  clear H ko hex hey
  go_enter Try.func10, Try.ntmps10
  go_wp2_with fail
  generalize w.alloc (.cells #[.int .i64 0, .int .i64 z, .bool false] 32) = w0 at *
  generalize w.heap.size = ob at *
  refine wp_region_still_lit (by kernel_rfl) (by kernel_rfl) ?_
  change wpStill _ _ w0.drew (fun a' => Exit.then _ _ Exit.normal a' w0.drew) _ _
  have HP1 := Lib.hid HP0.out.drew
  have HO1 : Hid (OpAt w0.drew ob 0 z false) := Lib.hid (HO0.out.kept (grown_drew w0))
  obtain ⟨t0, t1, t2, t3, t4, t5, f2, f3⟩ := HP1.out.cells
  obtain ⟨o0, o1, o2⟩ := HO1.out.cells
  clear HP0 HO0
  generalize w0.drew = w1 at *
  repeat still_step
  refine wpStill_nil ?_
  clear t0 t1 t2 t3 t4 t5 f2 f3 o0 o1 o2
  have HP := HP1
  have HO := HO1
  clear HP1 HO1
  generalize w1 = v0 at *
  obtain ⟨o0, o1, o2⟩ := HO.out.cells
  have hlx : LA.length = X.length := by have := HEX.out; rw [← this]; simp
  have HLX := Lib.hid hlx
  have HL := Lib.hid hl
  clear hlx hl
  go_wp2_with fail
  obtain ⟨_, _, t2, t3, _, _, _, _⟩ := HP.out.cells
  have q2 : v0.drew.cell? ⟨tb, 2, none⟩ = some (.slice ax X.length cx) := t2
  have q3 : v0.drew.cell? ⟨ob, 1, none⟩ = some (.int .i64 z) := o1
  have HPD := Lib.hid HP.out.drew
  have HOD := Lib.hid (HO.out.kept (grown_drew v0))
  have CR := Lib.hid (post_ref_ok na z HP.out.drew.rx (by have := HLX.out; have := HL.out; omega) (by have := HP.out.a.le; omega))
  clear t2 t3 HP HO
  go_region_held3 (fun w' => w'.cell? ⟨tb, 2, none⟩ = some (.slice ax X.length cx) ∧ w'.cell? ⟨ob, 1, none⟩ = some (.int .i64 z)) (first | exact ⟨q2, q3⟩ | exact ⟨q4, q5⟩)
    (first
      | (go_at_call 27; refine CR.out.mono ?_; rintro e w5 ⟨⟨v', rfl, r5⟩, k5⟩; have HP5 := Lib.hid (HPD.out.kept k5); have HO5 := Lib.hid (HOD.out.kept k5); have q4 : w5.cell? ⟨tb, 2, none⟩ = some (.slice ax X.length cx) := BI.cell_blk HP5.out.t 2; have q5 : w5.cell? ⟨ob, 1, none⟩ = some (.int .i64 z) := HO5.out.cells.2.1))
  all_goals
    obtain ⟨F', hF'⟩ : ∃ F', X ++ [z] = F' := ⟨_, rfl⟩
    rw [hF'] at r5
    have HF' := Lib.hid hF'
    clear hF'
    obtain ⟨a', c', rfl, _, _, _⟩ := id r5
    have HP6 := Lib.hid (HP5.out.set_a r5)
    have HO6 := Lib.hid (HO5.out.set HTO.out 2 (.slice a' F'.length c'))
    have CP := Lib.hid (BI.post_ok z HP6.out.a HL.out)
    unfold BI.valOf at CP
    have q6 := HO6.out.cells.2.1
    have q7 : w5.frozen? ⟨tb, 2, none⟩ = false := HP5.out.cells.2.2.2.2.2.2.1
    clear HPD HOD HO5 CR r5 k5 q2 q3 o0 o1 o2 HP5
    go_wp2_with fail
    refine CP.out.mono ?_
    rintro e w7 ⟨rfl, h7, k7⟩
    have HP7 := Lib.hid (HP6.out.on_a h7 k7 (fun p hp => by
      rcases List.mem_append.1 hp with h | h
      · exact Or.inl h
      · have h := List.mem_singleton.1 h; subst h; exact Or.inr rfl))
    have HE7 : Hid ((LA ++ [((w5.setCell ⟨tb, 2, none⟩ (.slice a' F'.length c')).heap.size, z)]).map Prod.snd = F') := Lib.hid (by rw [List.map_append, HEX.out]; exact HF'.out)
    clear h7 k7 CP HP6 HO6 q4 q5 q6 q7
    go_wp2
    go_ret
    exact ⟨rfl, _, LB, _, _, _, Y, HP7.out, HE7.out, HEY.out⟩

set_option maxRecDepth 100000 in
set_option maxHeartbeats 8000000 in
theorem does_post_a_no (z : Int) (hl : na ≤ LA.length) (H : PS W w tb ba ca na bb cb nb LA LB vx vy X Y) (hex : LA.map Prod.snd = X) (hey : LB.map Prod.snd = Y) :
    Calls Try.prog 10 #[.pointer (some ⟨tb, 0, none⟩), .agg #[.int .i64 0, .int .i64 z, .bool false]] w fun e w' => e = .returned (.bool true) ∧ PQ W w' tb ba ca na bb cb nb := by
  have hmf : ∀ (fn : Fn) (first cap : Array Value) (w : World), (Instr.makeFunc fn first cap).run Try.prog w = .ok (.func fn first cap) w := fun _ _ _ _ => rfl
  have ko := World.grownBy_alloc w (.cells #[.int .i64 0, .int .i64 z, .bool false] 32) none
  have HO0 : Hid (OpAt (w.alloc (.cells #[.int .i64 0, .int .i64 z, .bool false] 32)) w.heap.size 0 z false) := Lib.hid (heap_alloc_new w (.cells #[.int .i64 0, .int .i64 z, .bool false] 32))
  have HP0 := Lib.hid (H.kept ko)
  have HTO : Hid (tb < w.heap.size) := Lib.hid (BI.blk_lt H.t)
  have HEX := Lib.hid hex
  have HEY := Lib.hid hey
  obtain ⟨ax, cx, rfl, _, _, _⟩ := id H.rx
  obtain ⟨ay, cy, rfl, _, _, _⟩ := id H.ry
  clear H ko hex hey
  go_enter Try.func10, Try.ntmps10
  go_wp2_with fail
  generalize w.alloc (.cells #[.int .i64 0, .int .i64 z, .bool false] 32) = w0 at *
  generalize w.heap.size = ob at *
  refine wp_region_still_lit (by kernel_rfl) (by kernel_rfl) ?_
  change wpStill _ _ w0.drew (fun a' => Exit.then _ _ Exit.normal a' w0.drew) _ _
  have HP1 := Lib.hid HP0.out.drew
  have HO1 : Hid (OpAt w0.drew ob 0 z false) := Lib.hid (HO0.out.kept (grown_drew w0))
  obtain ⟨t0, t1, t2, t3, t4, t5, f2, f3⟩ := HP1.out.cells
  obtain ⟨o0, o1, o2⟩ := HO1.out.cells
  clear HP0 HO0
  generalize w0.drew = w1 at *
  repeat still_step
  refine wpStill_nil ?_
  clear t0 t1 t2 t3 t4 t5 f2 f3 o0 o1 o2
  have HP := HP1
  have HO := HO1
  clear HP1 HO1
  generalize w1 = v0 at *
  obtain ⟨o0, o1, o2⟩ := HO.out.cells
  have hlx : LA.length = X.length := by have := HEX.out; rw [← this]; simp
  have HLX := Lib.hid hlx
  have HL := Lib.hid hl
  clear hlx hl
  go_wp2_with fail
  obtain ⟨_, _, t2, t3, _, _, _, _⟩ := HP.out.cells
  have q2 : v0.drew.cell? ⟨tb, 2, none⟩ = some (.slice ax X.length cx) := t2
  have q3 : v0.drew.cell? ⟨ob, 1, none⟩ = some (.int .i64 z) := o1
  have HPD := Lib.hid HP.out.drew
  have HOD := Lib.hid (HO.out.kept (grown_drew v0))
  have CR := Lib.hid (post_ref_no na z HP.out.drew.rx (by have := HLX.out; have := HL.out; omega))
  clear t2 t3 HP HO
  go_region_held3 (fun w' => w'.cell? ⟨tb, 2, none⟩ = some (.slice ax X.length cx) ∧ w'.cell? ⟨ob, 1, none⟩ = some (.int .i64 z)) (first | exact ⟨q2, q3⟩ | exact ⟨q4, q5⟩)
    (first
      | (go_at_call 27; refine CR.out.mono ?_; rintro e w5 ⟨rfl, e5⟩; have HP5 : Hid (PS W w5 tb ba ca na bb cb nb LA LB _ _ X Y) := Lib.hid (e5 ▸ HPD.out); have HO5 : Hid (OpAt w5 ob _ z _) := Lib.hid (e5 ▸ HOD.out); have q4 : w5.cell? ⟨tb, 2, none⟩ = some (.slice ax X.length cx) := BI.cell_blk HP5.out.t 2; have q5 : w5.cell? ⟨ob, 1, none⟩ = some (.int .i64 z) := HO5.out.cells.2.1))
  all_goals
    have HP6 := Lib.hid (HP5.out.set_a HP5.out.rx)
    have HO6 := Lib.hid (HO5.out.set HTO.out 2 (.slice ax X.length cx))
    have CP := Lib.hid (BI.post_no z HP6.out.a HL.out)
    unfold BI.valOf at CP
    have q6 := HO6.out.cells.2.1
    have q7 : w5.frozen? ⟨tb, 2, none⟩ = false := HP5.out.cells.2.2.2.2.2.2.1
    clear HPD HOD CR o0 o1 o2 e5 HP5 HO5
    go_wp2_with fail
    refine CP.out.mono ?_
    rintro e w7 ⟨rfl, h7, k7⟩
    have HP7 := Lib.hid (HP6.out.kept k7)
    clear h7 k7 CP HP6 HO6 q2 q3 q4 q5 q6 q7
    go_wp2
    go_ret
    exact ⟨rfl, LA, LB, _, _, X, Y, HP7.out, HEX.out, HEY.out⟩

set_option maxRecDepth 100000 in
set_option maxHeartbeats 8000000 in
theorem does_fetch_a_some (z y : Int) (p : Nat) (H : PS W w tb ba ca na bb cb nb ((p, y) :: LA) LB vx vy (y :: X) Y) (hex : LA.map Prod.snd = X) (hey : LB.map Prod.snd = Y) :
    Calls Try.prog 10 #[.pointer (some ⟨tb, 0, none⟩), .agg #[.int .i64 1, .int .i64 z, .bool false]] w fun e w' => e = .returned (.bool true) ∧ PQ W w' tb ba ca na bb cb nb := by
  have hmf : ∀ (fn : Fn) (first cap : Array Value) (w : World), (Instr.makeFunc fn first cap).run Try.prog w = .ok (.func fn first cap) w := fun _ _ _ _ => rfl
  have ko := World.grownBy_alloc w (.cells #[.int .i64 1, .int .i64 z, .bool false] 32) none
  have HO0 : Hid (OpAt (w.alloc (.cells #[.int .i64 1, .int .i64 z, .bool false] 32)) w.heap.size 1 z false) := Lib.hid (heap_alloc_new w (.cells #[.int .i64 1, .int .i64 z, .bool false] 32))
  have HP0 := Lib.hid (H.kept ko)
  have HTO : Hid (tb < w.heap.size) := Lib.hid (BI.blk_lt H.t)
  have HEX := Lib.hid hex
  have HEY := Lib.hid hey
  obtain ⟨ax, cx, rfl, _, _, _⟩ := id H.rx
  obtain ⟨ay, cy, rfl, _, _, _⟩ := id H.ry
  clear H ko hex hey
  go_enter Try.func10, Try.ntmps10
  go_wp2_with fail
  generalize w.alloc (.cells #[.int .i64 1, .int .i64 z, .bool false] 32) = w0 at *
  generalize w.heap.size = ob at *
  refine wp_region_still_lit (by kernel_rfl) (by kernel_rfl) ?_
  change wpStill _ _ w0.drew (fun a' => Exit.then _ _ Exit.normal a' w0.drew) _ _
  have HP1 := Lib.hid HP0.out.drew
  have HO1 : Hid (OpAt w0.drew ob 1 z false) := Lib.hid (HO0.out.kept (grown_drew w0))
  obtain ⟨t0, t1, t2, t3, t4, t5, f2, f3⟩ := HP1.out.cells
  obtain ⟨o0, o1, o2⟩ := HO1.out.cells
  clear HP0 HO0
  generalize w0.drew = w1 at *
  repeat still_step
  refine wpStill_nil ?_
  clear t0 t1 t2 t3 t4 t5 f2 f3 o0 o1 o2
  have HP := HP1
  have HO := HO1
  clear HP1 HO1
  generalize w1 = v0 at *
  obtain ⟨o0, o1, o2⟩ := HO.out.cells
  obtain ⟨_, _, t2, t3, _, _, f2, f3⟩ := HP.out.cells
  simp only [List.length_cons] at t2 t3
  have CR := Lib.hid (fetch_ref_some HP.out.rx)
  simp only [List.length_cons] at CR
  go_wp2_with fail
  refine CR.out.mono ?_
  rintro e w5 ⟨⟨v', rfl, r5⟩, k5⟩
  obtain ⟨a', c', rfl, _, _, _⟩ := id r5
  have HP5 := Lib.hid (HP.out.kept k5)
  have HP6 := Lib.hid (HP5.out.set_a r5)
  have CP := Lib.hid (BI.fetch_some HP6.out.a)
  unfold BI.valOf at CP
  obtain ⟨_, _, s2, s3, _, _, s6, s7⟩ := HP5.out.cells
  simp only [List.length_cons] at s2 s3
  clear HP HO HP5 CR r5 k5 o0 o1 o2 t2 t3 f2 f3
  go_wp2_with fail
  refine CP.out.mono ?_
  rintro e w7 ⟨rfl, h7, k7⟩
  have HP7 := Lib.hid (HP6.out.on_a h7 k7 (fun q hq => Or.inl (List.mem_cons_of_mem _ hq)))
  clear h7 k7 CP HP6 s2 s3 s6 s7
  go_wp2
  go_ret
  exact ⟨rfl, LA, LB, _, _, X, Y, HP7.out, HEX.out, HEY.out⟩

set_option maxRecDepth 100000 in
set_option maxHeartbeats 8000000 in
theorem does_fetch_a_none (z : Int) (H : PS W w tb ba ca na bb cb nb [] LB vx vy [] Y) (hey : LB.map Prod.snd = Y) :
    Calls Try.prog 10 #[.pointer (some ⟨tb, 0, none⟩), .agg #[.int .i64 1, .int .i64 z, .bool false]] w fun e w' => e = .returned (.bool true) ∧ PQ W w' tb ba ca na bb cb nb := by
  have hmf : ∀ (fn : Fn) (first cap : Array Value) (w : World), (Instr.makeFunc fn first cap).run Try.prog w = .ok (.func fn first cap) w := fun _ _ _ _ => rfl
  have ko := World.grownBy_alloc w (.cells #[.int .i64 1, .int .i64 z, .bool false] 32) none
  have HO0 : Hid (OpAt (w.alloc (.cells #[.int .i64 1, .int .i64 z, .bool false] 32)) w.heap.size 1 z false) := Lib.hid (heap_alloc_new w (.cells #[.int .i64 1, .int .i64 z, .bool false] 32))
  have HP0 := Lib.hid (H.kept ko)
  have HTO : Hid (tb < w.heap.size) := Lib.hid (BI.blk_lt H.t)
  have HEY := Lib.hid hey
  obtain ⟨ax, cx, rfl, _, _, _⟩ := id H.rx
  obtain ⟨ay, cy, rfl, _, _, _⟩ := id H.ry
  clear H ko hey
  go_enter Try.func10, Try.ntmps10
  go_wp2_with fail
  generalize w.alloc (.cells #[.int .i64 1, .int .i64 z, .bool false] 32) = w0 at *
  generalize w.heap.size = ob at *
  refine wp_region_still_lit (by kernel_rfl) (by kernel_rfl) ?_
  change wpStill _ _ w0.drew (fun a' => Exit.then _ _ Exit.normal a' w0.drew) _ _
  have HP1 := Lib.hid HP0.out.drew
  have HO1 : Hid (OpAt w0.drew ob 1 z false) := Lib.hid (HO0.out.kept (grown_drew w0))
  obtain ⟨t0, t1, t2, t3, t4, t5, f2, f3⟩ := HP1.out.cells
  obtain ⟨o0, o1, o2⟩ := HO1.out.cells
  clear HP0 HO0
  generalize w0.drew = w1 at *
  repeat still_step
  refine wpStill_nil ?_
  clear t0 t1 t2 t3 t4 t5 f2 f3 o0 o1 o2
  have HP := HP1
  have HO := HO1
  clear HP1 HO1
  generalize w1 = v0 at *
  obtain ⟨o0, o1, o2⟩ := HO.out.cells
  obtain ⟨_, _, t2, t3, _, _, f2, f3⟩ := HP.out.cells
  simp only [List.length_nil] at t2 t3
  have CR := Lib.hid (fetch_ref_no HP.out.rx)
  simp only [List.length_nil] at CR
  have HP6 := Lib.hid (HP.out.set_a HP.out.rx)
  have CP := Lib.hid (BI.fetch_none HP6.out.a)
  unfold BI.valOf BI.zeroV at CP
  simp only [List.length_nil] at CP
  clear HO
  go_wp2_with fail
  refine CR.out.mono ?_
  rintro e w5 ⟨rfl, rfl⟩
  clear CR HP
  go_wp2_with fail
  refine CP.out.mono ?_
  rintro e w7 ⟨rfl, h7, k7⟩
  have HP7 := Lib.hid (HP6.out.kept k7)
  clear h7 k7 CP HP6 t2 t3 f2 f3 o0 o1 o2
  go_wp2
  go_ret
  exact ⟨rfl, [], LB, _, _, [], Y, HP7.out, rfl, HEY.out⟩

set_option maxRecDepth 100000 in
set_option maxHeartbeats 8000000 in
theorem does_sift_a (z : Int) (H : PS W w tb ba ca na bb cb nb LA LB vx vy X Y) (hex : LA.map Prod.snd = X) (hey : LB.map Prod.snd = Y) :
    Calls Try.prog 10 #[.pointer (some ⟨tb, 0, none⟩), .agg #[.int .i64 2, .int .i64 z, .bool false]] w fun e w' => e = .returned (.bool true) ∧ PQ W w' tb ba ca na bb cb nb := by
  have hmf : ∀ (fn : Fn) (first cap : Array Value) (w : World), (Instr.makeFunc fn first cap).run Try.prog w = .ok (.func fn first cap) w := fun _ _ _ _ => rfl
  have ko := World.grownBy_alloc w (.cells #[.int .i64 2, .int .i64 z, .bool false] 32) none
  have HO0 : Hid (OpAt (w.alloc (.cells #[.int .i64 2, .int .i64 z, .bool false] 32)) w.heap.size 2 z false) := Lib.hid (heap_alloc_new w (.cells #[.int .i64 2, .int .i64 z, .bool false] 32))
  have HP0 := Lib.hid (H.kept ko)
  have HTO : Hid (tb < w.heap.size) := Lib.hid (BI.blk_lt H.t)
  have HEX := Lib.hid hex
  have HEY := Lib.hid hey
  obtain ⟨ax, cx, rfl, _, _, _⟩ := id H.rx
  obtain ⟨ay, cy, rfl, _, _, _⟩ := id H.ry
  clear H ko hex hey
  go_enter Try.func10, Try.ntmps10
  go_wp2_with fail
  generalize w.alloc (.cells #[.int .i64 2, .int .i64 z, .bool false] 32) = w0 at *
  generalize w.heap.size = ob at *
  refine wp_region_still_lit (by kernel_rfl) (by kernel_rfl) ?_
  change wpStill _ _ w0.drew (fun a' => Exit.then _ _ Exit.normal a' w0.drew) _ _
  have HP1 := Lib.hid HP0.out.drew
  have HO1 : Hid (OpAt w0.drew ob 2 z false) := Lib.hid (HO0.out.kept (grown_drew w0))
  obtain ⟨t0, t1, t2, t3, t4, t5, f2, f3⟩ := HP1.out.cells
  obtain ⟨o0, o1, o2⟩ := HO1.out.cells
  clear HP0 HO0
  generalize w0.drew = w1 at *
  repeat still_step
  refine wpStill_nil ?_
  clear t0 t1 t2 t3 t4 t5 f2 f3 o0 o1 o2
  have HP := HP1
  have HO := HO1
  clear HP1 HO1
  generalize w1 = v0 at *
  obtain ⟨o0, o1, o2⟩ := HO.out.cells
  have hlx : LA.length = X.length := by have := HEX.out; rw [← this]; simp
  have HLX := Lib.hid hlx
  clear hlx
  have HFX : Hid ((LA.filter fun x => isnt z x.2).map Prod.snd = X.filter (isnt z)) := Lib.hid (by rw [← HEX.out, List.filter_map]; rfl)
  have HFL : Hid ((LA.filter fun x => isnt z x.2).length = (X.filter (isnt z)).length) := Lib.hid (by rw [← HFX.out]; simp)
  go_wp2_with fail
  obtain ⟨_, _, t2, t3, _, _, _, _⟩ := HP.out.cells
  have q2 : v0.drew.cell? ⟨tb, 2, none⟩ = some (.slice ax X.length cx) := t2
  have q3 : v0.drew.cell? ⟨ob, 1, none⟩ = some (.int .i64 z) := o1
  have HPD := Lib.hid HP.out.drew
  have HOD := Lib.hid (HO.out.kept (grown_drew v0))
  have CR := Lib.hid (sift_ref z HP.out.drew.rx (by have := HLX.out; have := HP.out.a.le; omega))
  clear t2 t3 HP HO
  go_region_held3 (fun w' => w'.cell? ⟨tb, 2, none⟩ = some (.slice ax X.length cx) ∧ w'.cell? ⟨ob, 1, none⟩ = some (.int .i64 z)) (first | exact ⟨q2, q3⟩ | exact ⟨q4, q5⟩)
    (first
      | (go_at_call 29; refine CR.out.mono ?_; rintro e w5 ⟨⟨v', rfl, r5⟩, k5⟩; have HP5 := Lib.hid (HPD.out.kept k5); have HO5 := Lib.hid (HOD.out.kept k5); have q4 : w5.cell? ⟨tb, 2, none⟩ = some (.slice ax X.length cx) := BI.cell_blk HP5.out.t 2; have q5 : w5.cell? ⟨ob, 1, none⟩ = some (.int .i64 z) := HO5.out.cells.2.1))
  all_goals
    obtain ⟨F', hF'⟩ : ∃ F', X.filter (isnt z) = F' := ⟨_, rfl⟩
    rw [hF'] at r5 ⊢
    have HFX' := HFX.out
    have HFL' := HFL.out
    rw [hF'] at HFX' HFL'
    have HFY := Lib.hid HFX'
    obtain ⟨a', c', rfl, _, _, _⟩ := id r5
    have HP6 := Lib.hid (HP5.out.set_a r5)
    have HO6 := Lib.hid (HO5.out.set HTO.out 2 (.slice a' F'.length c'))
    have CP0 := BI.sift_does (isnt z) ob _ _ (by decide) (fun w y h => does1 ob _ z y _ h) HP6.out.a HO6.out
    rw [HFL', HLX.out] at CP0
    have CP := Lib.hid CP0
    have q7 : w5.frozen? ⟨tb, 2, none⟩ = false := HP5.out.cells.2.2.2.2.2.2.1
    clear HPD HOD HO5 CR r5 k5 q2 q3 o0 o1 o2 HP5 CP0 HFX' HFL' HFX HFL hF'
    go_wp2_with fail
    refine CP.out.mono ?_
    rintro e w7 ⟨rfl, h7, k7⟩
    have HP7 := Lib.hid (HP6.out.sift_a h7 k7 (fun p hp => (List.mem_filter.1 hp).1))
    clear h7 k7 CP HP6 HO6 q4 q5 q7
    go_wp2
    go_ret
    exact ⟨rfl, _, LB, _, _, _, Y, HP7.out, HFY.out, HEY.out⟩
end
end Go.Proofs.Ytijgdlanjhcabaa
