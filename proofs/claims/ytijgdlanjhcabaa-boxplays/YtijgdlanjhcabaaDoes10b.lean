/-
  BoxPlays: a step of the law ('does'), over this seat's translation: the other box.
-/
import Derived.Test.YtijgdlanjhcabaaDoes10
import Derived.Test.YtijgdlanjhcabaaBox8I
import Derived.Deep.RegionHeld3
namespace Go.Proofs.Ytijgdlanjhcabaa
open Go.RowKit Go.Lib Go.Conc
set_option maxRecDepth 100000
set_option linter.unusedVariables false
section
variable {W w w' : World} {tb ba ca na bb cb nb : Nat} {LA LB : List (Nat × Int)} {vx vy : Value} {X Y : List Int}

set_option maxRecDepth 100000 in
set_option maxHeartbeats 8000000 in
theorem does_post_b_ok (z : Int) (hl : LB.length < nb) (H : PS W w tb ba ca na bb cb nb LA LB vx vy X Y) (hex : LA.map Prod.snd = X) (hey : LB.map Prod.snd = Y) :
    Calls Try.prog 10 #[.pointer (some ⟨tb, 0, none⟩), .agg #[.int .i64 0, .int .i64 z, .bool true]] w fun e w' => e = .returned (.bool true) ∧ PQ W w' tb ba ca na bb cb nb := by
  have hmf : ∀ (fn : Fn) (first cap : Array Value) (w : World), (Instr.makeFunc fn first cap).run Try.prog w = .ok (.func fn first cap) w := fun _ _ _ _ => rfl
  have ko := World.grownBy_alloc w (.cells #[.int .i64 0, .int .i64 z, .bool true] 32) none
  have HO0 : Hid (OpAt (w.alloc (.cells #[.int .i64 0, .int .i64 z, .bool true] 32)) w.heap.size 0 z true) := Lib.hid (heap_alloc_new w (.cells #[.int .i64 0, .int .i64 z, .bool true] 32))
  have HP0 := Lib.hid (H.kept ko)
  have HTO : Hid (tb < w.heap.size) := Lib.hid (BI.blk_lt H.t)
  have HEX := Lib.hid hex
  have HEY := Lib.hid hey
  obtain ⟨ax, cx, rfl, _, _, _⟩ := id H.rx
  obtain ⟨ay, cy, rfl, _, _, _⟩ := id H.ry
  clear H ko hex hey
  go_enter Try.func10, Try.ntmps10
  go_wp2_with fail
  generalize w.alloc (.cells #[.int .i64 0, .int .i64 z, .bool true] 32) = w0 at *
  generalize w.heap.size = ob at *
  refine wp_region_still_lit (by kernel_rfl) (by kernel_rfl) ?_
  change wpStill _ _ w0.drew (fun a' => Exit.then _ _ Exit.normal a' w0.drew) _ _
  have HP1 := Lib.hid HP0.out.drew
  have HO1 : Hid (OpAt w0.drew ob 0 z true) := Lib.hid (HO0.out.kept (grown_drew w0))
  obtain ⟨t0, t1, t2, t3, t4, t5, f2, f3⟩ := HP1.out.cells
  obtain ⟨o0, o1, o2⟩ := HO1.out.cells
  clear HP0 HO0
  generalize w0.drew = w1 at *
  repeat still_step
  refine wpStill_nil ?_
  clear t0 t1 t2 t3 t4 t5 f2 f3 o0 o1 o2
  obtain ⟨o0, o1, o2⟩ := HO1.out.cells
  go_wp2_with fail
  clear o0 o1 o2
  refine wp_region_still_lit (by kernel_rfl) (by kernel_rfl) ?_
  change wpStill _ _ w1.drew (fun a' => Exit.then _ _ Exit.normal a' w1.drew) _ _
  have HP := Lib.hid HP1.out.drew
  have HO : Hid (OpAt w1.drew ob 0 z true) := Lib.hid (HO1.out.kept (grown_drew w1))
  obtain ⟨t0, t1, t2, t3, t4, t5, f2, f3⟩ := HP.out.cells
  obtain ⟨o0, o1, o2⟩ := HO.out.cells
  clear HP1 HO1
  generalize w1.drew = v0 at *
  repeat still_step
  refine wpStill_nil ?_
  clear t0 t1 t2 t3 t4 t5 f2 f3 o0 o1 o2
  obtain ⟨o0, o1, o2⟩ := HO.out.cells
  have hlx : LB.length = Y.length := by have := HEY.out; rw [← this]; simp
  have HLX := Lib.hid hlx
  have HL := Lib.hid hl
  clear hlx hl
  go_wp2_with fail
  obtain ⟨_, _, t2, t3, _, _, _, _⟩ := HP.out.cells
  have q2 : v0.drew.cell? ⟨tb, 3, none⟩ = some (.slice ay Y.length cy) := t3
  have q3 : v0.drew.cell? ⟨ob, 1, none⟩ = some (.int .i64 z) := o1
  have HPD := Lib.hid HP.out.drew
  have HOD := Lib.hid (HO.out.kept (grown_drew v0))
  have CR := Lib.hid (post_ref_ok nb z HP.out.drew.ry (by have := HLX.out; have := HL.out; omega) (by have := HP.out.b.le; omega))
  clear t2 t3 HP HO
  go_region_held3 (fun w' => w'.cell? ⟨tb, 3, none⟩ = some (.slice ay Y.length cy) ∧ w'.cell? ⟨ob, 1, none⟩ = some (.int .i64 z)) (first | exact ⟨q2, q3⟩ | exact ⟨q4, q5⟩)
    (first
      | (go_at_call 27; refine CR.out.mono ?_; rintro e w5 ⟨⟨v', rfl, r5⟩, k5⟩; have HP5 := Lib.hid (HPD.out.kept k5); have HO5 := Lib.hid (HOD.out.kept k5); have q4 : w5.cell? ⟨tb, 3, none⟩ = some (.slice ay Y.length cy) := BI.cell_blk HP5.out.t 3; have q5 : w5.cell? ⟨ob, 1, none⟩ = some (.int .i64 z) := HO5.out.cells.2.1))
  all_goals
    obtain ⟨F', hF'⟩ : ∃ F', Y ++ [z] = F' := ⟨_, rfl⟩
    rw [hF'] at r5
    have HF' := Lib.hid hF'
    clear hF'
    obtain ⟨a', c', rfl, _, _, _⟩ := id r5
    have HP6 := Lib.hid (HP5.out.set_b r5)
    have HO6 := Lib.hid (HO5.out.set HTO.out 3 (.slice a' F'.length c'))
    have CP := Lib.hid (BI.post_ok z HP6.out.b HL.out)
    unfold BI.valOf at CP
    have q6 := HO6.out.cells.2.1
    have q7 : w5.frozen? ⟨tb, 3, none⟩ = false := HP5.out.cells.2.2.2.2.2.2.2
    clear HPD HOD HO5 CR r5 k5 q2 q3 o0 o1 o2 HP5
    go_wp2_with fail
    refine CP.out.mono ?_
    rintro e w7 ⟨rfl, h7, k7⟩
    have HP7 := Lib.hid (HP6.out.on_b h7 k7 (fun p hp => by
      rcases List.mem_append.1 hp with h | h
      · exact Or.inl h
      · have h := List.mem_singleton.1 h; subst h; exact Or.inr rfl))
    have HE7 : Hid ((LB ++ [((w5.setCell ⟨tb, 3, none⟩ (.slice a' F'.length c')).heap.size, z)]).map Prod.snd = F') := Lib.hid (by rw [List.map_append, HEY.out]; exact HF'.out)
    clear h7 k7 CP HP6 HO6 q4 q5 q6 q7
    go_wp2
    go_ret
    exact ⟨rfl, LA, _, _, _, X, _, HP7.out, HEX.out, HE7.out⟩

set_option maxRecDepth 100000 in
set_option maxHeartbeats 8000000 in
theorem does_post_b_no (z : Int) (hl : nb ≤ LB.length) (H : PS W w tb ba ca na bb cb nb LA LB vx vy X Y) (hex : LA.map Prod.snd = X) (hey : LB.map Prod.snd = Y) :
    Calls Try.prog 10 #[.pointer (some ⟨tb, 0, none⟩), .agg #[.int .i64 0, .int .i64 z, .bool true]] w fun e w' => e = .returned (.bool true) ∧ PQ W w' tb ba ca na bb cb nb := by
  have hmf : ∀ (fn : Fn) (first cap : Array Value) (w : World), (Instr.makeFunc fn first cap).run Try.prog w = .ok (.func fn first cap) w := fun _ _ _ _ => rfl
  have ko := World.grownBy_alloc w (.cells #[.int .i64 0, .int .i64 z, .bool true] 32) none
  have HO0 : Hid (OpAt (w.alloc (.cells #[.int .i64 0, .int .i64 z, .bool true] 32)) w.heap.size 0 z true) := Lib.hid (heap_alloc_new w (.cells #[.int .i64 0, .int .i64 z, .bool true] 32))
  have HP0 := Lib.hid (H.kept ko)
  have HTO : Hid (tb < w.heap.size) := Lib.hid (BI.blk_lt H.t)
  have HEX := Lib.hid hex
  have HEY := Lib.hid hey
  obtain ⟨ax, cx, rfl, _, _, _⟩ := id H.rx
  obtain ⟨ay, cy, rfl, _, _, _⟩ := id H.ry
  clear H ko hex hey
  go_enter Try.func10, Try.ntmps10
  go_wp2_with fail
  generalize w.alloc (.cells #[.int .i64 0, .int .i64 z, .bool true] 32) = w0 at *
  generalize w.heap.size = ob at *
  refine wp_region_still_lit (by kernel_rfl) (by kernel_rfl) ?_
  change wpStill _ _ w0.drew (fun a' => Exit.then _ _ Exit.normal a' w0.drew) _ _
  have HP1 := Lib.hid HP0.out.drew
  have HO1 : Hid (OpAt w0.drew ob 0 z true) := Lib.hid (HO0.out.kept (grown_drew w0))
  obtain ⟨t0, t1, t2, t3, t4, t5, f2, f3⟩ := HP1.out.cells
  obtain ⟨o0, o1, o2⟩ := HO1.out.cells
  clear HP0 HO0
  generalize w0.drew = w1 at *
  repeat still_step
  refine wpStill_nil ?_
  clear t0 t1 t2 t3 t4 t5 f2 f3 o0 o1 o2
  obtain ⟨o0, o1, o2⟩ := HO1.out.cells
  go_wp2_with fail
  clear o0 o1 o2
  refine wp_region_still_lit (by kernel_rfl) (by kernel_rfl) ?_
  change wpStill _ _ w1.drew (fun a' => Exit.then _ _ Exit.normal a' w1.drew) _ _
  have HP := Lib.hid HP1.out.drew
  have HO : Hid (OpAt w1.drew ob 0 z true) := Lib.hid (HO1.out.kept (grown_drew w1))
  obtain ⟨t0, t1, t2, t3, t4, t5, f2, f3⟩ := HP.out.cells
  obtain ⟨o0, o1, o2⟩ := HO.out.cells
  clear HP1 HO1
  generalize w1.drew = v0 at *
  repeat still_step
  refine wpStill_nil ?_
  clear t0 t1 t2 t3 t4 t5 f2 f3 o0 o1 o2
  obtain ⟨o0, o1, o2⟩ := HO.out.cells
  have hlx : LB.length = Y.length := by have := HEY.out; rw [← this]; simp
  have HLX := Lib.hid hlx
  have HL := Lib.hid hl
  clear hlx hl
  go_wp2_with fail
  obtain ⟨_, _, t2, t3, _, _, _, _⟩ := HP.out.cells
  have q2 : v0.drew.cell? ⟨tb, 3, none⟩ = some (.slice ay Y.length cy) := t3
  have q3 : v0.drew.cell? ⟨ob, 1, none⟩ = some (.int .i64 z) := o1
  have HPD := Lib.hid HP.out.drew
  have HOD := Lib.hid (HO.out.kept (grown_drew v0))
  have CR := Lib.hid (post_ref_no nb z HP.out.drew.ry (by have := HLX.out; have := HL.out; omega))
  clear t2 t3 HP HO
  go_region_held3 (fun w' => w'.cell? ⟨tb, 3, none⟩ = some (.slice ay Y.length cy) ∧ w'.cell? ⟨ob, 1, none⟩ = some (.int .i64 z)) (first | exact ⟨q2, q3⟩ | exact ⟨q4, q5⟩)
    (first
      | (go_at_call 27; refine CR.out.mono ?_; rintro e w5 ⟨rfl, e5⟩; have HP5 : Hid (PS W w5 tb ba ca na bb cb nb LA LB _ _ X Y) := Lib.hid (e5 ▸ HPD.out); have HO5 : Hid (OpAt w5 ob _ z _) := Lib.hid (e5 ▸ HOD.out); have q4 : w5.cell? ⟨tb, 3, none⟩ = some (.slice ay Y.length cy) := BI.cell_blk HP5.out.t 3; have q5 : w5.cell? ⟨ob, 1, none⟩ = some (.int .i64 z) := HO5.out.cells.2.1))
  all_goals
    have HP6 := Lib.hid (HP5.out.set_b HP5.out.ry)
    have HO6 := Lib.hid (HO5.out.set HTO.out 3 (.slice ay Y.length cy))
    have CP := Lib.hid (BI.post_no z HP6.out.b HL.out)
    unfold BI.valOf at CP
    have q6 := HO6.out.cells.2.1
    have q7 : w5.frozen? ⟨tb, 3, none⟩ = false := HP5.out.cells.2.2.2.2.2.2.2
    clear HPD HOD CR o0 o1 o2 e5 HP5 HO5
    go_wp2_with fail
    refine CP.out.mono ?_
    rintro e w7 ⟨rfl, h7, k7⟩
    have HP7 := Lib.hid (HP6.out.kept k7)
    clear h7 k7 CP HP6 HO6 q2 q3 q4 q5 q6 q7
    go_wp2
    go_ret
    exact ⟨rfl, LA, LB, _, _, X, Y, HP7.out, HEX.out, HEY.out⟩

set_option maxRecDepth 100000 in
set_option maxHeartbeats 8000000 in
theorem does_fetch_b_some (z y : Int) (p : Nat) (H : PS W w tb ba ca na bb cb nb LA ((p, y) :: LB) vx vy X (y :: Y)) (hex : LA.map Prod.snd = X) (hey : LB.map Prod.snd = Y) :
    Calls Try.prog 10 #[.pointer (some ⟨tb, 0, none⟩), .agg #[.int .i64 1, .int .i64 z, .bool true]] w fun e w' => e = .returned (.bool true) ∧ PQ W w' tb ba ca na bb cb nb := by
  have hmf : ∀ (fn : Fn) (first cap : Array Value) (w : World), (Instr.makeFunc fn first cap).run Try.prog w = .ok (.func fn first cap) w := fun _ _ _ _ => rfl
  have ko := World.grownBy_alloc w (.cells #[.int .i64 1, .int .i64 z, .bool true] 32) none
  have HO0 : Hid (OpAt (w.alloc (.cells #[.int .i64 1, .int .i64 z, .bool true] 32)) w.heap.size 1 z true) := Lib.hid (heap_alloc_new w (.cells #[.int .i64 1, .int .i64 z, .bool true] 32))
  have HP0 := Lib.hid (H.kept ko)
  have HTO : Hid (tb < w.heap.size) := Lib.hid (BI.blk_lt H.t)
  have HEX := Lib.hid hex
  have HEY := Lib.hid hey
  obtain ⟨ax, cx, rfl, _, _, _⟩ := id H.rx
  obtain ⟨ay, cy, rfl, _, _, _⟩ := id H.ry
  clear H ko hex hey
  go_enter Try.func10, Try.ntmps10
  go_wp2_with fail
  generalize w.alloc (.cells #[.int .i64 1, .int .i64 z, .bool true] 32) = w0 at *
  generalize w.heap.size = ob at *
  refine wp_region_still_lit (by kernel_rfl) (by kernel_rfl) ?_
  change wpStill _ _ w0.drew (fun a' => Exit.then _ _ Exit.normal a' w0.drew) _ _
  have HP1 := Lib.hid HP0.out.drew
  have HO1 : Hid (OpAt w0.drew ob 1 z true) := Lib.hid (HO0.out.kept (grown_drew w0))
  obtain ⟨t0, t1, t2, t3, t4, t5, f2, f3⟩ := HP1.out.cells
  obtain ⟨o0, o1, o2⟩ := HO1.out.cells
  clear HP0 HO0
  generalize w0.drew = w1 at *
  repeat still_step
  refine wpStill_nil ?_
  clear t0 t1 t2 t3 t4 t5 f2 f3 o0 o1 o2
  obtain ⟨o0, o1, o2⟩ := HO1.out.cells
  go_wp2_with fail
  clear o0 o1 o2
  refine wp_region_still_lit (by kernel_rfl) (by kernel_rfl) ?_
  change wpStill _ _ w1.drew (fun a' => Exit.then _ _ Exit.normal a' w1.drew) _ _
  have HP := Lib.hid HP1.out.drew
  have HO : Hid (OpAt w1.drew ob 1 z true) := Lib.hid (HO1.out.kept (grown_drew w1))
  obtain ⟨t0, t1, t2, t3, t4, t5, f2, f3⟩ := HP.out.cells
  obtain ⟨o0, o1, o2⟩ := HO.out.cells
  clear HP1 HO1
  generalize w1.drew = v0 at *
  repeat still_step
  refine wpStill_nil ?_
  clear t0 t1 t2 t3 t4 t5 f2 f3 o0 o1 o2
  obtain ⟨o0, o1, o2⟩ := HO.out.cells
  obtain ⟨_, _, t2, t3, _, _, f2, f3⟩ := HP.out.cells
  simp only [List.length_cons] at t2 t3
  have CR := Lib.hid (fetch_ref_some HP.out.ry)
  simp only [List.length_cons] at CR
  go_wp2_with fail
  refine CR.out.mono ?_
  rintro e w5 ⟨⟨v', rfl, r5⟩, k5⟩
  obtain ⟨a', c', rfl, _, _, _⟩ := id r5
  have HP5 := Lib.hid (HP.out.kept k5)
  have HP6 := Lib.hid (HP5.out.set_b r5)
  have CP := Lib.hid (BI.fetch_some HP6.out.b)
  unfold BI.valOf at CP
  obtain ⟨_, _, s2, s3, _, _, s6, s7⟩ := HP5.out.cells
  simp only [List.length_cons] at s2 s3
  clear HP HO HP5 CR r5 k5 o0 o1 o2 t2 t3 f2 f3
  go_wp2_with fail
  refine CP.out.mono ?_
  rintro e w7 ⟨rfl, h7, k7⟩
  have HP7 := Lib.hid (HP6.out.on_b h7 k7 (fun q hq => Or.inl (List.mem_cons_of_mem _ hq)))
  clear h7 k7 CP HP6 s2 s3 s6 s7
  go_wp2
  go_ret
  exact ⟨rfl, LA, LB, _, _, X, Y, HP7.out, HEX.out, HEY.out⟩

set_option maxRecDepth 100000 in
set_option maxHeartbeats 8000000 in
theorem does_fetch_b_none (z : Int) (H : PS W w tb ba ca na bb cb nb LA [] vx vy X []) (hex : LA.map Prod.snd = X) :
    Calls Try.prog 10 #[.pointer (some ⟨tb, 0, none⟩), .agg #[.int .i64 1, .int .i64 z, .bool true]] w fun e w' => e = .returned (.bool true) ∧ PQ W w' tb ba ca na bb cb nb := by
  have hmf : ∀ (fn : Fn) (first cap : Array Value) (w : World), (Instr.makeFunc fn first cap).run Try.prog w = .ok (.func fn first cap) w := fun _ _ _ _ => rfl
  have ko := World.grownBy_alloc w (.cells #[.int .i64 1, .int .i64 z, .bool true] 32) none
  have HO0 : Hid (OpAt (w.alloc (.cells #[.int .i64 1, .int .i64 z, .bool true] 32)) w.heap.size 1 z true) := Lib.hid (heap_alloc_new w (.cells #[.int .i64 1, .int .i64 z, .bool true] 32))
  have HP0 := Lib.hid (H.kept ko)
  have HTO : Hid (tb < w.heap.size) := Lib.hid (BI.blk_lt H.t)
  have HEX := Lib.hid hex
  obtain ⟨ax, cx, rfl, _, _, _⟩ := id H.rx
  obtain ⟨ay, cy, rfl, _, _, _⟩ := id H.ry
  clear H ko hex
  go_enter Try.func10, Try.ntmps10
  go_wp2_with fail
  generalize w.alloc (.cells #[.int .i64 1, .int .i64 z, .bool true] 32) = w0 at *
  generalize w.heap.size = ob at *
  refine wp_region_still_lit (by kernel_rfl) (by kernel_rfl) ?_
  change wpStill _ _ w0.drew (fun a' => Exit.then _ _ Exit.normal a' w0.drew) _ _
  have HP1 := Lib.hid HP0.out.drew
  have HO1 : Hid (OpAt w0.drew ob 1 z true) := Lib.hid (HO0.out.kept (grown_drew w0))
  obtain ⟨t0, t1, t2, t3, t4, t5, f2, f3⟩ := HP1.out.cells
  obtain ⟨o0, o1, o2⟩ := HO1.out.cells
  clear HP0 HO0
  generalize w0.drew = w1 at *
  repeat still_step
  refine wpStill_nil ?_
  clear t0 t1 t2 t3 t4 t5 f2 f3 o0 o1 o2
  obtain ⟨o0, o1, o2⟩ := HO1.out.cells
  go_wp2_with fail
  clear o0 o1 o2
  refine wp_region_still_lit (by kernel_rfl) (by kernel_rfl) ?_
  change wpStill _ _ w1.drew (fun a' => Exit.then _ _ Exit.normal a' w1.drew) _ _
  have HP := Lib.hid HP1.out.drew
  have HO : Hid (OpAt w1.drew ob 1 z true) := Lib.hid (HO1.out.kept (grown_drew w1))
  obtain ⟨t0, t1, t2, t3, t4, t5, f2, f3⟩ := HP.out.cells
  obtain ⟨o0, o1, o2⟩ := HO.out.cells
  clear HP1 HO1
  generalize w1.drew = v0 at *
  repeat still_step
  refine wpStill_nil ?_
  clear t0 t1 t2 t3 t4 t5 f2 f3 o0 o1 o2
  obtain ⟨o0, o1, o2⟩ := HO.out.cells
  obtain ⟨_, _, t2, t3, _, _, f2, f3⟩ := HP.out.cells
  simp only [List.length_nil] at t2 t3
  have CR := Lib.hid (fetch_ref_no HP.out.ry)
  simp only [List.length_nil] at CR
  have HP6 := Lib.hid (HP.out.set_b HP.out.ry)
  have CP := Lib.hid (BI.fetch_none HP6.out.b)
  unfold BI.valOf BI.zeroV at CP
  simp only [List.length_nil] at CP
  clear HO
  go_wp2_with fail
  refine CR.out.mono ?_
  rintro e w5 ⟨rfl, rfl⟩
  clear CR HP
  go_wp2_with fail
  refine CP.out.mono ?_
  rintro e w7 ⟨rfl, h7, k7⟩
  have HP7 := Lib.hid (HP6.out.kept k7)
  clear h7 k7 CP HP6 t2 t3 f2 f3 o0 o1 o2
  go_wp2
  go_ret
  exact ⟨rfl, LA, [], _, _, X, [], HP7.out, HEX.out, rfl⟩

set_option maxRecDepth 100000 in
set_option maxHeartbeats 8000000 in
theorem does_sift_b (z : Int) (H : PS W w tb ba ca na bb cb nb LA LB vx vy X Y) (hex : LA.map Prod.snd = X) (hey : LB.map Prod.snd = Y) :
    Calls Try.prog 10 #[.pointer (some ⟨tb, 0, none⟩), .agg #[.int .i64 2, .int .i64 z, .bool true]] w fun e w' => e = .returned (.bool true) ∧ PQ W w' tb ba ca na bb cb nb := by
  have hmf : ∀ (fn : Fn) (first cap : Array Value) (w : World), (Instr.makeFunc fn first cap).run Try.prog w = .ok (.func fn first cap) w := fun _ _ _ _ => rfl
  have ko := World.grownBy_alloc w (.cells #[.int .i64 2, .int .i64 z, .bool true] 32) none
  have HO0 : Hid (OpAt (w.alloc (.cells #[.int .i64 2, .int .i64 z, .bool true] 32)) w.heap.size 2 z true) := Lib.hid (heap_alloc_new w (.cells #[.int .i64 2, .int .i64 z, .bool true] 32))
  have HP0 := Lib.hid (H.kept ko)
  have HTO : Hid (tb < w.heap.size) := Lib.hid (BI.blk_lt H.t)
  have HEX := Lib.hid hex
  have HEY := Lib.hid hey
  obtain ⟨ax, cx, rfl, _, _, _⟩ := id H.rx
  obtain ⟨ay, cy, rfl, _, _, _⟩ := id H.ry
  clear H ko hex hey
  go_enter Try.func10, Try.ntmps10
  go_wp2_with fail
  generalize w.alloc (.cells #[.int .i64 2, .int .i64 z, .bool true] 32) = w0 at *
  generalize w.heap.size = ob at *
  refine wp_region_still_lit (by kernel_rfl) (by kernel_rfl) ?_
  change wpStill _ _ w0.drew (fun a' => Exit.then _ _ Exit.normal a' w0.drew) _ _
  have HP1 := Lib.hid HP0.out.drew
  have HO1 : Hid (OpAt w0.drew ob 2 z true) := Lib.hid (HO0.out.kept (grown_drew w0))
  obtain ⟨t0, t1, t2, t3, t4, t5, f2, f3⟩ := HP1.out.cells
  obtain ⟨o0, o1, o2⟩ := HO1.out.cells
  clear HP0 HO0
  generalize w0.drew = w1 at *
  repeat still_step
  refine wpStill_nil ?_
  clear t0 t1 t2 t3 t4 t5 f2 f3 o0 o1 o2
  obtain ⟨o0, o1, o2⟩ := HO1.out.cells
  go_wp2_with fail
  clear o0 o1 o2
  refine wp_region_still_lit (by kernel_rfl) (by kernel_rfl) ?_
  change wpStill _ _ w1.drew (fun a' => Exit.then _ _ Exit.normal a' w1.drew) _ _
  have HP := Lib.hid HP1.out.drew
  have HO : Hid (OpAt w1.drew ob 2 z true) := Lib.hid (HO1.out.kept (grown_drew w1))
  obtain ⟨t0, t1, t2, t3, t4, t5, f2, f3⟩ := HP.out.cells
  obtain ⟨o0, o1, o2⟩ := HO.out.cells
  clear HP1 HO1
  generalize w1.drew = v0 at *
  repeat still_step
  refine wpStill_nil ?_
  clear t0 t1 t2 t3 t4 t5 f2 f3 o0 o1 o2
  obtain ⟨o0, o1, o2⟩ := HO.out.cells
  have hlx : LB.length = Y.length := by have := HEY.out; rw [← this]; simp
  have HLX := Lib.hid hlx
  clear hlx
  have HFX : Hid ((LB.filter fun x => isnt z x.2).map Prod.snd = Y.filter (isnt z)) := Lib.hid (by rw [← HEY.out, List.filter_map]; rfl)
  have HFL : Hid ((LB.filter fun x => isnt z x.2).length = (Y.filter (isnt z)).length) := Lib.hid (by rw [← HFX.out]; simp)
  go_wp2_with fail
  obtain ⟨_, _, t2, t3, _, _, _, _⟩ := HP.out.cells
  have q2 : v0.drew.cell? ⟨tb, 3, none⟩ = some (.slice ay Y.length cy) := t3
  have q3 : v0.drew.cell? ⟨ob, 1, none⟩ = some (.int .i64 z) := o1
  have HPD := Lib.hid HP.out.drew
  have HOD := Lib.hid (HO.out.kept (grown_drew v0))
  have CR := Lib.hid (sift_ref z HP.out.drew.ry (by have := HLX.out; have := HP.out.b.le; omega))
  clear t2 t3 HP HO
  go_region_held3 (fun w' => w'.cell? ⟨tb, 3, none⟩ = some (.slice ay Y.length cy) ∧ w'.cell? ⟨ob, 1, none⟩ = some (.int .i64 z)) (first | exact ⟨q2, q3⟩ | exact ⟨q4, q5⟩)
    (first
      | (go_at_call 29; refine CR.out.mono ?_; rintro e w5 ⟨⟨v', rfl, r5⟩, k5⟩; have HP5 := Lib.hid (HPD.out.kept k5); have HO5 := Lib.hid (HOD.out.kept k5); have q4 : w5.cell? ⟨tb, 3, none⟩ = some (.slice ay Y.length cy) := BI.cell_blk HP5.out.t 3; have q5 : w5.cell? ⟨ob, 1, none⟩ = some (.int .i64 z) := HO5.out.cells.2.1))
  all_goals
    obtain ⟨F', hF'⟩ : ∃ F', Y.filter (isnt z) = F' := ⟨_, rfl⟩
    rw [hF'] at r5 ⊢
    have HFX' := HFX.out
    have HFL' := HFL.out
    rw [hF'] at HFX' HFL'
    have HFY := Lib.hid HFX'
    obtain ⟨a', c', rfl, _, _, _⟩ := id r5
    have HP6 := Lib.hid (HP5.out.set_b r5)
    have HO6 := Lib.hid (HO5.out.set HTO.out 3 (.slice a' F'.length c'))
    have CP0 := BI.sift_does (isnt z) ob _ _ (by decide) (fun w y h => does1 ob _ z y _ h) HP6.out.b HO6.out
    rw [HFL', HLX.out] at CP0
    have CP := Lib.hid CP0
    have q7 : w5.frozen? ⟨tb, 3, none⟩ = false := HP5.out.cells.2.2.2.2.2.2.2
    clear HPD HOD HO5 CR r5 k5 q2 q3 o0 o1 o2 HP5 CP0 HFX' HFL' HFX HFL hF'
    go_wp2_with fail
    refine CP.out.mono ?_
    rintro e w7 ⟨rfl, h7, k7⟩
    have HP7 := Lib.hid (HP6.out.sift_b h7 k7 (fun p hp => (List.mem_filter.1 hp).1))
    clear h7 k7 CP HP6 HO6 q4 q5 q7
    go_wp2
    go_ret
    exact ⟨rfl, LA, _, _, _, X, _, HP7.out, HEX.out, HFY.out⟩
end
end Go.Proofs.Ytijgdlanjhcabaa
