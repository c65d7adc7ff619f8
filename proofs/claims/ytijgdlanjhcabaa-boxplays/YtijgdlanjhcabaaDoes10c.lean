/-
  BoxPlays: a step of the law ('does'), over this seat's translation: of both boxes.
-/
import Derived.Test.YtijgdlanjhcabaaDoes10
import Derived.Test.YtijgdlanjhcabaaBox8I
import Derived.Deep.RegionHeld3
namespace Go.Proofs.Ytijgdlanjhcabaa
open Go.RowKit Go.Lib Go.Conc
set_option maxRecDepth 100000
set_option linter.unusedVariables false
section
variable {W w w' : World} {tb ba ca na bb cb nb : Nat} {LA LB : List (Nat × Int)} {vx vy : Value} {X Y : List Int}

set_option maxRecDepth 100000 in
set_option maxHeartbeats 8000000 in
theorem does_either_first_false (z y : Int) (p : Nat) (H : PS W w tb ba ca na bb cb nb LA ((p, y) :: LB) vx vy X (y :: Y)) (hex : LA.map Prod.snd = X) (hey : LB.map Prod.snd = Y) :
    Calls Try.prog 10 #[.pointer (some ⟨tb, 0, none⟩), .agg #[.int .i64 3, .int .i64 z, .bool false]] w fun e w' => e = .returned (.bool true) ∧ PQ W w' tb ba ca na bb cb nb := by
  have hmf : ∀ (fn : Fn) (first cap : Array Value) (w : World), (Instr.makeFunc fn first cap).run Try.prog w = .ok (.func fn first cap) w := fun _ _ _ _ => rfl
  have ko := World.grownBy_alloc w (.cells #[.int .i64 3, .int .i64 z, .bool false] 32) none
  have HO0 : Hid (OpAt (w.alloc (.cells #[.int .i64 3, .int .i64 z, .bool false] 32)) w.heap.size 3 z false) := Lib.hid (heap_alloc_new w (.cells #[.int .i64 3, .int .i64 z, .bool false] 32))
  have HP0 := Lib.hid (H.kept ko)
  have HTO : Hid (tb < w.heap.size) := Lib.hid (BI.blk_lt H.t)
  have HEX := Lib.hid hex
  have HEY := Lib.hid hey
  obtain ⟨ax, cx, rfl, _, _, _⟩ := id H.rx
  obtain ⟨ay, cy, rfl, _, _, _⟩ := id H.ry
  clear H ko hex hey
  go_enter Try.func10, Try.ntmps10
  go_wp2_with fail
  generalize w.alloc (.cells #[.int .i64 3, .int .i64 z, .bool false] 32) = w0 at *
  generalize w.heap.size = ob at *
  refine wp_region_still_lit (by kernel_rfl) (by kernel_rfl) ?_
  change wpStill _ _ w0.drew (fun a' => Exit.then _ _ Exit.normal a' w0.drew) _ _
  have HP1 := Lib.hid HP0.out.drew
  have HO1 : Hid (OpAt w0.drew ob 3 z false) := Lib.hid (HO0.out.kept (grown_drew w0))
  obtain ⟨t0, t1, t2, t3, t4, t5, f2, f3⟩ := HP1.out.cells
  obtain ⟨o0, o1, o2⟩ := HO1.out.cells
  clear HP0 HO0
  generalize w0.drew = w1 at *
  repeat still_step
  refine wpStill_nil ?_
  clear t0 t1 t2 t3 t4 t5 f2 f3 o0 o1 o2
  have HP := HP1
  have HO := HO1
  clear HP1 HO1
  generalize w1 = v0 at *
  obtain ⟨o0, o1, o2⟩ := HO.out.cells
  clear HO
  go_wp2_with fail
  obtain ⟨t0, t1, _, _, _, _, _, _⟩ := HP.out.cells
  have q2 : v0.drew.cell? ⟨tb, 0, none⟩ = some (.pointer (some ⟨ba, 0, none⟩)) := t0
  have q3 : v0.drew.cell? ⟨tb, 1, none⟩ = some (.pointer (some ⟨bb, 0, none⟩)) := t1
  have HPD := Lib.hid HP.out.drew
  have CR := Lib.hid (BI.either_first (some ⟨ba, 0, none⟩) HP.out.drew.b)
  unfold BI.valOf at CR
  try unfold BI.zeroV at CR
  clear t0 t1 HP
  go_region_held3 (fun w' => w'.cell? ⟨tb, 0, none⟩ = some (.pointer (some ⟨ba, 0, none⟩)) ∧ w'.cell? ⟨tb, 1, none⟩ = some (.pointer (some ⟨bb, 0, none⟩))) (first | exact ⟨q2, q3⟩ | exact ⟨q4, q5⟩)
    (first
      | (go_at_call 26; refine CR.out.mono ?_; rintro e w5 ⟨rfl, h5, k5⟩; have HP5 := Lib.hid (HPD.out.on_b h5 k5 (fun q hq => Or.inl (List.mem_cons_of_mem _ hq))); have q4 : w5.cell? ⟨tb, 0, none⟩ = some (.pointer (some ⟨ba, 0, none⟩)) := BI.cell_blk HP5.out.t 0; have q5 : w5.cell? ⟨tb, 1, none⟩ = some (.pointer (some ⟨bb, 0, none⟩)) := BI.cell_blk HP5.out.t 1))
  all_goals
    clear HPD CR h5 k5 q2 q3 q4 q5 o0 o1 o2
    obtain ⟨_, _, t2, t3, _, _, f2, f3⟩ := HP5.out.cells
    simp only [List.length_cons] at t2 t3
    have CF := Lib.hid (fetch_ref_some HP5.out.ry)
    simp only [List.length_cons] at CF
    go_wp2_with fail
    refine CF.out.mono ?_
    rintro e w6 ⟨⟨v', rfl, r6⟩, k6⟩
    obtain ⟨a', c', rfl, _, _, _⟩ := id r6
    have HP6 := Lib.hid (HP5.out.kept k6)
    have HP7 := Lib.hid (HP6.out.set_b r6)
    obtain ⟨_, _, s2, s3, _, _, s6, s7⟩ := HP6.out.cells
    clear HP5 HP6 CF r6 k6 t2 t3 f2 f3
    go_wp2
    go_ret
    exact ⟨rfl, LA, LB, _, _, X, Y, HP7.out, HEX.out, HEY.out⟩

set_option maxRecDepth 100000 in
set_option maxHeartbeats 8000000 in
theorem does_either_second_false (z y : Int) (p : Nat) (H : PS W w tb ba ca na bb cb nb ((p, y) :: LA) [] vx vy (y :: X) []) (hex : LA.map Prod.snd = X) :
    Calls Try.prog 10 #[.pointer (some ⟨tb, 0, none⟩), .agg #[.int .i64 3, .int .i64 z, .bool false]] w fun e w' => e = .returned (.bool true) ∧ PQ W w' tb ba ca na bb cb nb := by
  have hmf : ∀ (fn : Fn) (first cap : Array Value) (w : World), (Instr.makeFunc fn first cap).run Try.prog w = .ok (.func fn first cap) w := fun _ _ _ _ => rfl
  have ko := World.grownBy_alloc w (.cells #[.int .i64 3, .int .i64 z, .bool false] 32) none
  have HO0 : Hid (OpAt (w.alloc (.cells #[.int .i64 3, .int .i64 z, .bool false] 32)) w.heap.size 3 z false) := Lib.hid (heap_alloc_new w (.cells #[.int .i64 3, .int .i64 z, .bool false] 32))
  have HP0 := Lib.hid (H.kept ko)
  have HTO : Hid (tb < w.heap.size) := Lib.hid (BI.blk_lt H.t)
  have HEX := Lib.hid hex
  obtain ⟨ax, cx, rfl, _, _, _⟩ := id H.rx
  obtain ⟨ay, cy, rfl, _, _, _⟩ := id H.ry
  clear H ko hex
  go_enter Try.func10, Try.ntmps10
  go_wp2_with fail
  generalize w.alloc (.cells #[.int .i64 3, .int .i64 z, .bool false] 32) = w0 at *
  generalize w.heap.size = ob at *
  refine wp_region_still_lit (by kernel_rfl) (by kernel_rfl) ?_
  change wpStill _ _ w0.drew (fun a' => Exit.then _ _ Exit.normal a' w0.drew) _ _
  have HP1 := Lib.hid HP0.out.drew
  have HO1 : Hid (OpAt w0.drew ob 3 z false) := Lib.hid (HO0.out.kept (grown_drew w0))
  obtain ⟨t0, t1, t2, t3, t4, t5, f2, f3⟩ := HP1.out.cells
  obtain ⟨o0, o1, o2⟩ := HO1.out.cells
  clear HP0 HO0
  generalize w0.drew = w1 at *
  repeat still_step
  refine wpStill_nil ?_
  clear t0 t1 t2 t3 t4 t5 f2 f3 o0 o1 o2
  have HP := HP1
  have HO := HO1
  clear HP1 HO1
  generalize w1 = v0 at *
  obtain ⟨o0, o1, o2⟩ := HO.out.cells
  clear HO
  go_wp2_with fail
  obtain ⟨t0, t1, _, _, _, _, _, _⟩ := HP.out.cells
  have q2 : v0.drew.cell? ⟨tb, 0, none⟩ = some (.pointer (some ⟨ba, 0, none⟩)) := t0
  have q3 : v0.drew.cell? ⟨tb, 1, none⟩ = some (.pointer (some ⟨bb, 0, none⟩)) := t1
  have HPD := Lib.hid HP.out.drew
  have CR := Lib.hid (BI.either_second HP.out.drew.b HP.out.drew.a)
  unfold BI.valOf at CR
  try unfold BI.zeroV at CR
  clear t0 t1 HP
  go_region_held3 (fun w' => w'.cell? ⟨tb, 0, none⟩ = some (.pointer (some ⟨ba, 0, none⟩)) ∧ w'.cell? ⟨tb, 1, none⟩ = some (.pointer (some ⟨bb, 0, none⟩))) (first | exact ⟨q2, q3⟩ | exact ⟨q4, q5⟩)
    (first
      | (go_at_call 26; refine CR.out.mono ?_; rintro e w5 ⟨rfl, h5, k5⟩; have HP5 := Lib.hid (HPD.out.on_a h5 k5 (fun q hq => Or.inl (List.mem_cons_of_mem _ hq))); have q4 : w5.cell? ⟨tb, 0, none⟩ = some (.pointer (some ⟨ba, 0, none⟩)) := BI.cell_blk HP5.out.t 0; have q5 : w5.cell? ⟨tb, 1, none⟩ = some (.pointer (some ⟨bb, 0, none⟩)) := BI.cell_blk HP5.out.t 1))
  all_goals
    clear HPD CR h5 k5 q2 q3 q4 q5 o0 o1 o2
    obtain ⟨_, _, t2, t3, _, _, f2, f3⟩ := HP5.out.cells
    simp only [List.length_cons, List.length_nil] at t2 t3
    have CF := Lib.hid (fetch_ref_no HP5.out.ry)
    simp only [List.length_nil] at CF
    go_wp2_with fail
    refine CF.out.mono ?_
    rintro e w6 ⟨rfl, rfl⟩
    clear CF
    have CG := Lib.hid (fetch_ref_some HP5.out.rx)
    simp only [List.length_cons] at CG
    go_wp2_with fail
    refine CG.out.mono ?_
    rintro e w6 ⟨⟨v', rfl, r6⟩, k6⟩
    obtain ⟨a', c', rfl, _, _, _⟩ := id r6
    have HP6 := Lib.hid (HP5.out.kept k6)
    have HP7 := Lib.hid (HP6.out.set_a r6)
    obtain ⟨_, _, s2, s3, _, _, s6, s7⟩ := HP6.out.cells
    simp only [List.length_cons] at s2
    clear HP5 HP6 CG r6 k6 t2 t3 f2 f3
    go_wp2
    go_ret
    exact ⟨rfl, LA, [], _, _, X, [], HP7.out, HEX.out, rfl⟩

set_option maxRecDepth 100000 in
set_option maxHeartbeats 8000000 in
theorem does_either_none_false (z : Int) (H : PS W w tb ba ca na bb cb nb [] [] vx vy [] []) :
    Calls Try.prog 10 #[.pointer (some ⟨tb, 0, none⟩), .agg #[.int .i64 3, .int .i64 z, .bool false]] w fun e w' => e = .returned (.bool true) ∧ PQ W w' tb ba ca na bb cb nb := by
  have hmf : ∀ (fn : Fn) (first cap : Array Value) (w : World), (Instr.makeFunc fn first cap).run Try.prog w = .ok (.func fn first cap) w := fun _ _ _ _ => rfl
  have ko := World.grownBy_alloc w (.cells #[.int .i64 3, .int .i64 z, .bool false] 32) none
  have HO0 : Hid (OpAt (w.alloc (.cells #[.int .i64 3, .int .i64 z, .bool false] 32)) w.heap.size 3 z false) := Lib.hid (heap_alloc_new w (.cells #[.int .i64 3, .int .i64 z, .bool false] 32))
  have HP0 := Lib.hid (H.kept ko)
  have HTO : Hid (tb < w.heap.size) := Lib.hid (BI.blk_lt H.t)
  obtain ⟨ax, cx, rfl, _, _, _⟩ := id H.rx
  obtain ⟨ay, cy, rfl, _, _, _⟩ := id H.ry
  clear H ko
  go_enter Try.func10, Try.ntmps10
  go_wp2_with fail
  generalize w.alloc (.cells #[.int .i64 3, .int .i64 z, .bool false] 32) = w0 at *
  generalize w.heap.size = ob at *
  refine wp_region_still_lit (by kernel_rfl) (by kernel_rfl) ?_
  change wpStill _ _ w0.drew (fun a' => Exit.then _ _ Exit.normal a' w0.drew) _ _
  have HP1 := Lib.hid HP0.out.drew
  have HO1 : Hid (OpAt w0.drew ob 3 z false) := Lib.hid (HO0.out.kept (grown_drew w0))
  obtain ⟨t0, t1, t2, t3, t4, t5, f2, f3⟩ := HP1.out.cells
  obtain ⟨o0, o1, o2⟩ := HO1.out.cells
  clear HP0 HO0
  generalize w0.drew = w1 at *
  repeat still_step
  refine wpStill_nil ?_
  clear t0 t1 t2 t3 t4 t5 f2 f3 o0 o1 o2
  have HP := HP1
  have HO := HO1
  clear HP1 HO1
  generalize w1 = v0 at *
  obtain ⟨o0, o1, o2⟩ := HO.out.cells
  clear HO
  go_wp2_with fail
  obtain ⟨t0, t1, _, _, _, _, _, _⟩ := HP.out.cells
  have q2 : v0.drew.cell? ⟨tb, 0, none⟩ = some (.pointer (some ⟨ba, 0, none⟩)) := t0
  have q3 : v0.drew.cell? ⟨tb, 1, none⟩ = some (.pointer (some ⟨bb, 0, none⟩)) := t1
  have HPD := Lib.hid HP.out.drew
  have CR := Lib.hid (BI.either_none HP.out.drew.b HP.out.drew.a)
  unfold BI.valOf at CR
  try unfold BI.zeroV at CR
  clear t0 t1 HP
  go_region_held3 (fun w' => w'.cell? ⟨tb, 0, none⟩ = some (.pointer (some ⟨ba, 0, none⟩)) ∧ w'.cell? ⟨tb, 1, none⟩ = some (.pointer (some ⟨bb, 0, none⟩))) (first | exact ⟨q2, q3⟩ | exact ⟨q4, q5⟩)
    (first
      | (go_at_call 26; refine CR.out.mono ?_; rintro e w5 ⟨rfl, k5⟩; have HP5 := Lib.hid (HPD.out.kept k5); have q4 : w5.cell? ⟨tb, 0, none⟩ = some (.pointer (some ⟨ba, 0, none⟩)) := BI.cell_blk HP5.out.t 0; have q5 : w5.cell? ⟨tb, 1, none⟩ = some (.pointer (some ⟨bb, 0, none⟩)) := BI.cell_blk HP5.out.t 1))
  all_goals
    clear HPD CR  k5 q2 q3 q4 q5 o0 o1 o2
    obtain ⟨_, _, t2, t3, _, _, f2, f3⟩ := HP5.out.cells
    simp only [List.length_nil] at t2 t3
    have CF := Lib.hid (fetch_ref_no HP5.out.ry)
    simp only [List.length_nil] at CF
    go_wp2_with fail
    refine CF.out.mono ?_
    rintro e w6 ⟨rfl, rfl⟩
    clear CF
    have CG := Lib.hid (fetch_ref_no HP5.out.rx)
    simp only [List.length_nil] at CG
    have HP7 := Lib.hid (HP5.out.set_a HP5.out.rx)
    simp only [List.length_nil] at HP7
    go_wp2_with fail
    refine CG.out.mono ?_
    rintro e w6 ⟨rfl, rfl⟩
    clear CG HP5
    go_wp2
    go_ret
    exact ⟨rfl, [], [], _, _, [], [], HP7.out, rfl, rfl⟩

set_option maxRecDepth 100000 in
set_option maxHeartbeats 8000000 in
theorem does_either_first_true (z y : Int) (p : Nat) (H : PS W w tb ba ca na bb cb nb LA ((p, y) :: LB) vx vy X (y :: Y)) (hex : LA.map Prod.snd = X) (hey : LB.map Prod.snd = Y) :
    Calls Try.prog 10 #[.pointer (some ⟨tb, 0, none⟩), .agg #[.int .i64 3, .int .i64 z, .bool true]] w fun e w' => e = .returned (.bool true) ∧ PQ W w' tb ba ca na bb cb nb := by
  have hmf : ∀ (fn : Fn) (first cap : Array Value) (w : World), (Instr.makeFunc fn first cap).run Try.prog w = .ok (.func fn first cap) w := fun _ _ _ _ => rfl
  have ko := World.grownBy_alloc w (.cells #[.int .i64 3, .int .i64 z, .bool true] 32) none
  have HO0 : Hid (OpAt (w.alloc (.cells #[.int .i64 3, .int .i64 z, .bool true] 32)) w.heap.size 3 z true) := Lib.hid (heap_alloc_new w (.cells #[.int .i64 3, .int .i64 z, .bool true] 32))
  have HP0 := Lib.hid (H.kept ko)
  have HTO : Hid (tb < w.heap.size) := Lib.hid (BI.blk_lt H.t)
  have HEX := Lib.hid hex
  have HEY := Lib.hid hey
  obtain ⟨ax, cx, rfl, _, _, _⟩ := id H.rx
  obtain ⟨ay, cy, rfl, _, _, _⟩ := id H.ry
  clear H ko hex hey
  go_enter Try.func10, Try.ntmps10
  go_wp2_with fail
  generalize w.alloc (.cells #[.int .i64 3, .int .i64 z, .bool true] 32) = w0 at *
  generalize w.heap.size = ob at *
  refine wp_region_still_lit (by kernel_rfl) (by kernel_rfl) ?_
  change wpStill _ _ w0.drew (fun a' => Exit.then _ _ Exit.normal a' w0.drew) _ _
  have HP1 := Lib.hid HP0.out.drew
  have HO1 : Hid (OpAt w0.drew ob 3 z true) := Lib.hid (HO0.out.kept (grown_drew w0))
  obtain ⟨t0, t1, t2, t3, t4, t5, f2, f3⟩ := HP1.out.cells
  obtain ⟨o0, o1, o2⟩ := HO1.out.cells
  clear HP0 HO0
  generalize w0.drew = w1 at *
  repeat still_step
  refine wpStill_nil ?_
  clear t0 t1 t2 t3 t4 t5 f2 f3 o0 o1 o2
  obtain ⟨o0, o1, o2⟩ := HO1.out.cells
  go_wp2_with fail
  clear o0 o1 o2
  refine wp_region_still_lit (by kernel_rfl) (by kernel_rfl) ?_
  change wpStill _ _ w1.drew (fun a' => Exit.then _ _ Exit.normal a' w1.drew) _ _
  have HP := Lib.hid HP1.out.drew
  have HO : Hid (OpAt w1.drew ob 3 z true) := Lib.hid (HO1.out.kept (grown_drew w1))
  obtain ⟨t0, t1, t2, t3, t4, t5, f2, f3⟩ := HP.out.cells
  obtain ⟨o0, o1, o2⟩ := HO.out.cells
  clear HP1 HO1
  generalize w1.drew = v0 at *
  repeat still_step
  refine wpStill_nil ?_
  clear t0 t1 t2 t3 t4 t5 f2 f3 o0 o1 o2
  obtain ⟨o0, o1, o2⟩ := HO.out.cells
  clear HO
  go_wp2_with fail
  obtain ⟨t0, t1, _, _, _, _, _, _⟩ := HP.out.cells
  have q2 : v0.drew.cell? ⟨tb, 0, none⟩ = some (.pointer (some ⟨ba, 0, none⟩)) := t0
  have q3 : v0.drew.cell? ⟨tb, 1, none⟩ = some (.pointer (some ⟨bb, 0, none⟩)) := t1
  have HPD := Lib.hid HP.out.drew
  have CR := Lib.hid (BI.either_first (some ⟨ba, 0, none⟩) HP.out.drew.b)
  unfold BI.valOf at CR
  try unfold BI.zeroV at CR
  clear t0 t1 HP
  go_region_held3 (fun w' => w'.cell? ⟨tb, 0, none⟩ = some (.pointer (some ⟨ba, 0, none⟩)) ∧ w'.cell? ⟨tb, 1, none⟩ = some (.pointer (some ⟨bb, 0, none⟩))) (first | exact ⟨q2, q3⟩ | exact ⟨q4, q5⟩)
    (first
      | (go_at_call 26; refine CR.out.mono ?_; rintro e w5 ⟨rfl, h5, k5⟩; have HP5 := Lib.hid (HPD.out.on_b h5 k5 (fun q hq => Or.inl (List.mem_cons_of_mem _ hq))); have q4 : w5.cell? ⟨tb, 0, none⟩ = some (.pointer (some ⟨ba, 0, none⟩)) := BI.cell_blk HP5.out.t 0; have q5 : w5.cell? ⟨tb, 1, none⟩ = some (.pointer (some ⟨bb, 0, none⟩)) := BI.cell_blk HP5.out.t 1))
  all_goals
    clear HPD CR h5 k5 q2 q3 q4 q5 o0 o1 o2
    obtain ⟨_, _, t2, t3, _, _, f2, f3⟩ := HP5.out.cells
    simp only [List.length_cons] at t2 t3
    have CF := Lib.hid (fetch_ref_some HP5.out.ry)
    simp only [List.length_cons] at CF
    go_wp2_with fail
    refine CF.out.mono ?_
    rintro e w6 ⟨⟨v', rfl, r6⟩, k6⟩
    obtain ⟨a', c', rfl, _, _, _⟩ := id r6
    have HP6 := Lib.hid (HP5.out.kept k6)
    have HP7 := Lib.hid (HP6.out.set_b r6)
    obtain ⟨_, _, s2, s3, _, _, s6, s7⟩ := HP6.out.cells
    clear HP5 HP6 CF r6 k6 t2 t3 f2 f3
    go_wp2
    go_ret
    exact ⟨rfl, LA, LB, _, _, X, Y, HP7.out, HEX.out, HEY.out⟩

set_option maxRecDepth 100000 in
set_option maxHeartbeats 8000000 in
theorem does_either_second_true (z y : Int) (p : Nat) (H : PS W w tb ba ca na bb cb nb ((p, y) :: LA) [] vx vy (y :: X) []) (hex : LA.map Prod.snd = X) :
    Calls Try.prog 10 #[.pointer (some ⟨tb, 0, none⟩), .agg #[.int .i64 3, .int .i64 z, .bool true]] w fun e w' => e = .returned (.bool true) ∧ PQ W w' tb ba ca na bb cb nb := by
  have hmf : ∀ (fn : Fn) (first cap : Array Value) (w : World), (Instr.makeFunc fn first cap).run Try.prog w = .ok (.func fn first cap) w := fun _ _ _ _ => rfl
  have ko := World.grownBy_alloc w (.cells #[.int .i64 3, .int .i64 z, .bool true] 32) none
  have HO0 : Hid (OpAt (w.alloc (.cells #[.int .i64 3, .int .i64 z, .bool true] 32)) w.heap.size 3 z true) := Lib.hid (heap_alloc_new w (.cells #[.int .i64 3, .int .i64 z, .bool true] 32))
  have HP0 := Lib.hid (H.kept ko)
  have HTO : Hid (tb < w.heap.size) := Lib.hid (BI.blk_lt H.t)
  have HEX := Lib.hid hex
  obtain ⟨ax, cx, rfl, _, _, _⟩ := id H.rx
  obtain ⟨ay, cy, rfl, _, _, _⟩ := id H.ry
  clear H ko hex
  go_enter Try.func10, Try.ntmps10
  go_wp2_with fail
  generalize w.alloc (.cells #[.int .i64 3, .int .i64 z, .bool true] 32) = w0 at *
  generalize w.heap.size = ob at *
  refine wp_region_still_lit (by kernel_rfl) (by kernel_rfl) ?_
  change wpStill _ _ w0.drew (fun a' => Exit.then _ _ Exit.normal a' w0.drew) _ _
  have HP1 := Lib.hid HP0.out.drew
  have HO1 : Hid (OpAt w0.drew ob 3 z true) := Lib.hid (HO0.out.kept (grown_drew w0))
  obtain ⟨t0, t1, t2, t3, t4, t5, f2, f3⟩ := HP1.out.cells
  obtain ⟨o0, o1, o2⟩ := HO1.out.cells
  clear HP0 HO0
  generalize w0.drew = w1 at *
  repeat still_step
  refine wpStill_nil ?_
  clear t0 t1 t2 t3 t4 t5 f2 f3 o0 o1 o2
  obtain ⟨o0, o1, o2⟩ := HO1.out.cells
  go_wp2_with fail
  clear o0 o1 o2
  refine wp_region_still_lit (by kernel_rfl) (by kernel_rfl) ?_
  change wpStill _ _ w1.drew (fun a' => Exit.then _ _ Exit.normal a' w1.drew) _ _
  have HP := Lib.hid HP1.out.drew
  have HO : Hid (OpAt w1.drew ob 3 z true) := Lib.hid (HO1.out.kept (grown_drew w1))
  obtain ⟨t0, t1, t2, t3, t4, t5, f2, f3⟩ := HP.out.cells
  obtain ⟨o0, o1, o2⟩ := HO.out.cells
  clear HP1 HO1
  generalize w1.drew = v0 at *
  repeat still_step
  refine wpStill_nil ?_
  clear t0 t1 t2 t3 t4 t5 f2 f3 o0 o1 o2
  obtain ⟨o0, o1, o2⟩ := HO.out.cells
  clear HO
  go_wp2_with fail
  obtain ⟨t0, t1, _, _, _, _, _, _⟩ := HP.out.cells
  have q2 : v0.drew.cell? ⟨tb, 0, none⟩ = some (.pointer (some ⟨ba, 0, none⟩)) := t0
  have q3 : v0.drew.cell? ⟨tb, 1, none⟩ = some (.pointer (some ⟨bb, 0, none⟩)) := t1
  have HPD := Lib.hid HP.out.drew
  have CR := Lib.hid (BI.either_second HP.out.drew.b HP.out.drew.a)
  unfold BI.valOf at CR
  try unfold BI.zeroV at CR
  clear t0 t1 HP
  go_region_held3 (fun w' => w'.cell? ⟨tb, 0, none⟩ = some (.pointer (some ⟨ba, 0, none⟩)) ∧ w'.cell? ⟨tb, 1, none⟩ = some (.pointer (some ⟨bb, 0, none⟩))) (first | exact ⟨q2, q3⟩ | exact ⟨q4, q5⟩)
    (first
      | (go_at_call 26; refine CR.out.mono ?_; rintro e w5 ⟨rfl, h5, k5⟩; have HP5 := Lib.hid (HPD.out.on_a h5 k5 (fun q hq => Or.inl (List.mem_cons_of_mem _ hq))); have q4 : w5.cell? ⟨tb, 0, none⟩ = some (.pointer (some ⟨ba, 0, none⟩)) := BI.cell_blk HP5.out.t 0; have q5 : w5.cell? ⟨tb, 1, none⟩ = some (.pointer (some ⟨bb, 0, none⟩)) := BI.cell_blk HP5.out.t 1))
  all_goals
    clear HPD CR h5 k5 q2 q3 q4 q5 o0 o1 o2
    obtain ⟨_, _, t2, t3, _, _, f2, f3⟩ := HP5.out.cells
    simp only [List.length_cons, List.length_nil] at t2 t3
    have CF := Lib.hid (fetch_ref_no HP5.out.ry)
    simp only [List.length_nil] at CF
    go_wp2_with fail
    refine CF.out.mono ?_
    rintro e w6 ⟨rfl, rfl⟩
    clear CF
    have CG := Lib.hid (fetch_ref_some HP5.out.rx)
    simp only [List.length_cons] at CG
    go_wp2_with fail
    refine CG.out.mono ?_
    rintro e w6 ⟨⟨v', rfl, r6⟩, k6⟩
    obtain ⟨a', c', rfl, _, _, _⟩ := id r6
    have HP6 := Lib.hid (HP5.out.kept k6)
    have HP7 := Lib.hid (HP6.out.set_a r6)
    obtain ⟨_, _, s2, s3, _, _, s6, s7⟩ := HP6.out.cells
    simp only [List.length_cons] at s2
    clear HP5 HP6 CG r6 k6 t2 t3 f2 f3
    go_wp2
    go_ret
    exact ⟨rfl, LA, [], _, _, X, [], HP7.out, HEX.out, rfl⟩

set_option maxRecDepth 100000 in
set_option maxHeartbeats 8000000 in
theorem does_either_none_true (z : Int) (H : PS W w tb ba ca na bb cb nb [] [] vx vy [] []) :
    Calls Try.prog 10 #[.pointer (some ⟨tb, 0, none⟩), .agg #[.int .i64 3, .int .i64 z, .bool true]] w fun e w' => e = .returned (.bool true) ∧ PQ W w' tb ba ca na bb cb nb := by
  have hmf : ∀ (fn : Fn) (first cap : Array Value) (w : World), (Instr.makeFunc fn first cap).run Try.prog w = .ok (.func fn first cap) w := fun _ _ _ _ => rfl
  have ko := World.grownBy_alloc w (.cells #[.int .i64 3, .int .i64 z, .bool true] 32) none
  have HO0 : Hid (OpAt (w.alloc (.cells #[.int .i64 3, .int .i64 z, .bool true] 32)) w.heap.size 3 z true) := Lib.hid (heap_alloc_new w (.cells #[.int .i64 3, .int .i64 z, .bool true] 32))
  have HP0 := Lib.hid (H.kept ko)
  have HTO : Hid (tb < w.heap.size) := Lib.hid (BI.blk_lt H.t)
  obtain ⟨ax, cx, rfl, _, _, _⟩ := id H.rx
  obtain ⟨ay, cy, rfl, _, _, _⟩ := id H.ry
  clear H ko
  go_enter Try.func10, Try.ntmps10
  go_wp2_with fail
  generalize w.alloc (.cells #[.int .i64 3, .int .i64 z, .bool true] 32) = w0 at *
  generalize w.heap.size = ob at *
  refine wp_region_still_lit (by kernel_rfl) (by kernel_rfl) ?_
  change wpStill _ _ w0.drew (fun a' => Exit.then _ _ Exit.normal a' w0.drew) _ _
  have HP1 := Lib.hid HP0.out.drew
  have HO1 : Hid (OpAt w0.drew ob 3 z true) := Lib.hid (HO0.out.kept (grown_drew w0))
  obtain ⟨t0, t1, t2, t3, t4, t5, f2, f3⟩ := HP1.out.cells
  obtain ⟨o0, o1, o2⟩ := HO1.out.cells
  clear HP0 HO0
  generalize w0.drew = w1 at *
  repeat still_step
  refine wpStill_nil ?_
  clear t0 t1 t2 t3 t4 t5 f2 f3 o0 o1 o2
  obtain ⟨o0, o1, o2⟩ := HO1.out.cells
  go_wp2_with fail
  clear o0 o1 o2
  refine wp_region_still_lit (by kernel_rfl) (by kernel_rfl) ?_
  change wpStill _ _ w1.drew (fun a' => Exit.then _ _ Exit.normal a' w1.drew) _ _
  have HP := Lib.hid HP1.out.drew
  have HO : Hid (OpAt w1.drew ob 3 z true) := Lib.hid (HO1.out.kept (grown_drew w1))
  obtain ⟨t0, t1, t2, t3, t4, t5, f2, f3⟩ := HP.out.cells
  obtain ⟨o0, o1, o2⟩ := HO.out.cells
  clear HP1 HO1
  generalize w1.drew = v0 at *
  repeat still_step
  refine wpStill_nil ?_
  clear t0 t1 t2 t3 t4 t5 f2 f3 o0 o1 o2
  obtain ⟨o0, o1, o2⟩ := HO.out.cells
  clear HO
  go_wp2_with fail
  obtain ⟨t0, t1, _, _, _, _, _, _⟩ := HP.out.cells
  have q2 : v0.drew.cell? ⟨tb, 0, none⟩ = some (.pointer (some ⟨ba, 0, none⟩)) := t0
  have q3 : v0.drew.cell? ⟨tb, 1, none⟩ = some (.pointer (some ⟨bb, 0, none⟩)) := t1
  have HPD := Lib.hid HP.out.drew
  have CR := Lib.hid (BI.either_none HP.out.drew.b HP.out.drew.a)
  unfold BI.valOf at CR
  try unfold BI.zeroV at CR
  clear t0 t1 HP
  go_region_held3 (fun w' => w'.cell? ⟨tb, 0, none⟩ = some (.pointer (some ⟨ba, 0, none⟩)) ∧ w'.cell? ⟨tb, 1, none⟩ = some (.pointer (some ⟨bb, 0, none⟩))) (first | exact ⟨q2, q3⟩ | exact ⟨q4, q5⟩)
    (first
      | (go_at_call 26; refine CR.out.mono ?_; rintro e w5 ⟨rfl, k5⟩; have HP5 := Lib.hid (HPD.out.kept k5); have q4 : w5.cell? ⟨tb, 0, none⟩ = some (.pointer (some ⟨ba, 0, none⟩)) := BI.cell_blk HP5.out.t 0; have q5 : w5.cell? ⟨tb, 1, none⟩ = some (.pointer (some ⟨bb, 0, none⟩)) := BI.cell_blk HP5.out.t 1))
  all_goals
    clear HPD CR  k5 q2 q3 q4 q5 o0 o1 o2
    obtain ⟨_, _, t2, t3, _, _, f2, f3⟩ := HP5.out.cells
    simp only [List.length_nil] at t2 t3
    have CF := Lib.hid (fetch_ref_no HP5.out.ry)
    simp only [List.length_nil] at CF
    go_wp2_with fail
    refine CF.out.mono ?_
    rintro e w6 ⟨rfl, rfl⟩
    clear CF
    have CG := Lib.hid (fetch_ref_no HP5.out.rx)
    simp only [List.length_nil] at CG
    have HP7 := Lib.hid (HP5.out.set_a HP5.out.rx)
    simp only [List.length_nil] at HP7
    go_wp2_with fail
    refine CG.out.mono ?_
    rintro e w6 ⟨rfl, rfl⟩
    clear CG HP5
    go_wp2
    go_ret
    exact ⟨rfl, [], [], _, _, [], [], HP7.out, rfl, rfl⟩

set_option maxRecDepth 100000 in
set_option maxHeartbeats 8000000 in
theorem does_other_false (kd z : Int) (h0 : kd ≠ 0) (h1 : kd ≠ 1) (h2 : kd ≠ 2) (h3 : kd ≠ 3) (H : PS W w tb ba ca na bb cb nb LA LB vx vy X Y) (hex : LA.map Prod.snd = X) (hey : LB.map Prod.snd = Y) :
    Calls Try.prog 10 #[.pointer (some ⟨tb, 0, none⟩), .agg #[.int .i64 kd, .int .i64 z, .bool false]] w fun e w' => e = .returned (.bool true) ∧ PQ W w' tb ba ca na bb cb nb := by
  have hmf : ∀ (fn : Fn) (first cap : Array Value) (w : World), (Instr.makeFunc fn first cap).run Try.prog w = .ok (.func fn first cap) w := fun _ _ _ _ => rfl
  have ko := World.grownBy_alloc w (.cells #[.int .i64 kd, .int .i64 z, .bool false] 32) none
  have HO0 : Hid (OpAt (w.alloc (.cells #[.int .i64 kd, .int .i64 z, .bool false] 32)) w.heap.size kd z false) := Lib.hid (heap_alloc_new w (.cells #[.int .i64 kd, .int .i64 z, .bool false] 32))
  have HP0 := Lib.hid (H.kept ko)
  have HTO : Hid (tb < w.heap.size) := Lib.hid (BI.blk_lt H.t)
  have HEX := Lib.hid hex
  have HEY := Lib.hid hey
  obtain ⟨ax, cx, rfl, _, _, _⟩ := id H.rx
  obtain ⟨ay, cy, rfl, _, _, _⟩ := id H.ry
  clear H ko hex hey
  go_enter Try.func10, Try.ntmps10
  go_wp2_with fail
  generalize w.alloc (.cells #[.int .i64 kd, .int .i64 z, .bool false] 32) = w0 at *
  generalize w.heap.size = ob at *
  refine wp_region_still_lit (by kernel_rfl) (by kernel_rfl) ?_
  change wpStill _ _ w0.drew (fun a' => Exit.then _ _ Exit.normal a' w0.drew) _ _
  have HP1 := Lib.hid HP0.out.drew
  have HO1 : Hid (OpAt w0.drew ob kd z false) := Lib.hid (HO0.out.kept (grown_drew w0))
  obtain ⟨t0, t1, t2, t3, t4, t5, f2, f3⟩ := HP1.out.cells
  obtain ⟨o0, o1, o2⟩ := HO1.out.cells
  clear HP0 HO0
  generalize w0.drew = w1 at *
  repeat still_step
  refine wpStill_nil ?_
  clear t0 t1 t2 t3 t4 t5 f2 f3 o0 o1 o2
  have HP := HP1
  have HO := HO1
  clear HP1 HO1
  generalize w1 = v0 at *
  obtain ⟨o0, o1, o2⟩ := HO.out.cells
  clear HO
  go_wp2
  go_ret
  exact ⟨rfl, LA, LB, _, _, X, Y, HP.out, HEX.out, HEY.out⟩

set_option maxRecDepth 100000 in
set_option maxHeartbeats 8000000 in
theorem does_other_true (kd z : Int) (h0 : kd ≠ 0) (h1 : kd ≠ 1) (h2 : kd ≠ 2) (h3 : kd ≠ 3) (H : PS W w tb ba ca na bb cb nb LA LB vx vy X Y) (hex : LA.map Prod.snd = X) (hey : LB.map Prod.snd = Y) :
    Calls Try.prog 10 #[.pointer (some ⟨tb, 0, none⟩), .agg #[.int .i64 kd, .int .i64 z, .bool true]] w fun e w' => e = .returned (.bool true) ∧ PQ W w' tb ba ca na bb cb nb := by
  have hmf : ∀ (fn : Fn) (first cap : Array Value) (w : World), (Instr.makeFunc fn first cap).run Try.prog w = .ok (.func fn first cap) w := fun _ _ _ _ => rfl
  have ko := World.grownBy_alloc w (.cells #[.int .i64 kd, .int .i64 z, .bool true] 32) none
  have HO0 : Hid (OpAt (w.alloc (.cells #[.int .i64 kd, .int .i64 z, .bool true] 32)) w.heap.size kd z true) := Lib.hid (heap_alloc_new w (.cells #[.int .i64 kd, .int .i64 z, .bool true] 32))
  have HP0 := Lib.hid (H.kept ko)
  have HTO : Hid (tb < w.heap.size) := Lib.hid (BI.blk_lt H.t)
  have HEX := Lib.hid hex
  have HEY := Lib.hid hey
  obtain ⟨ax, cx, rfl, _, _, _⟩ := id H.rx
  obtain ⟨ay, cy, rfl, _, _, _⟩ := id H.ry
  clear H ko hex hey
  go_enter Try.func10, Try.ntmps10
  go_wp2_with fail
  generalize w.alloc (.cells #[.int .i64 kd, .int .i64 z, .bool true] 32) = w0 at *
  generalize w.heap.size = ob at *
  refine wp_region_still_lit (by kernel_rfl) (by kernel_rfl) ?_
  change wpStill _ _ w0.drew (fun a' => Exit.then _ _ Exit.normal a' w0.drew) _ _
  have HP1 := Lib.hid HP0.out.drew
  have HO1 : Hid (OpAt w0.drew ob kd z true) := Lib.hid (HO0.out.kept (grown_drew w0))
  obtain ⟨t0, t1, t2, t3, t4, t5, f2, f3⟩ := HP1.out.cells
  obtain ⟨o0, o1, o2⟩ := HO1.out.cells
  clear HP0 HO0
  generalize w0.drew = w1 at *
  repeat still_step
  refine wpStill_nil ?_
  clear t0 t1 t2 t3 t4 t5 f2 f3 o0 o1 o2
  obtain ⟨o0, o1, o2⟩ := HO1.out.cells
  go_wp2_with fail
  clear o0 o1 o2
  refine wp_region_still_lit (by kernel_rfl) (by kernel_rfl) ?_
  change wpStill _ _ w1.drew (fun a' => Exit.then _ _ Exit.normal a' w1.drew) _ _
  have HP := Lib.hid HP1.out.drew
  have HO : Hid (OpAt w1.drew ob kd z true) := Lib.hid (HO1.out.kept (grown_drew w1))
  obtain ⟨t0, t1, t2, t3, t4, t5, f2, f3⟩ := HP.out.cells
  obtain ⟨o0, o1, o2⟩ := HO.out.cells
  clear HP1 HO1
  generalize w1.drew = v0 at *
  repeat still_step
  refine wpStill_nil ?_
  clear t0 t1 t2 t3 t4 t5 f2 f3 o0 o1 o2
  obtain ⟨o0, o1, o2⟩ := HO.out.cells
  clear HO
  go_wp2
  go_ret
  exact ⟨rfl, LA, LB, _, _, X, Y, HP.out, HEX.out, HEY.out⟩
end
end Go.Proofs.Ytijgdlanjhcabaa
