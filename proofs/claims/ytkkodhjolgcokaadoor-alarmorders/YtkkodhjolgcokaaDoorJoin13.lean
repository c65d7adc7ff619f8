/-
  Texts of one claim, joined, one behind the other.
-/
import Derived.Test.YtkkodhjolgcokaaDoorJoin12
import Derived.Deep.RegionHeld3
import Derived.Test.YtkkodhjolgcokaaDoorRows
import Derived.WalkKit
import Derived.WalkSpells
import Derived.Lib.Mul64
import Derived.Lib.Hide
import Derived.Test.YtkkodhjolgcokaaDoorJoin4
/-
  Contracts of package alarm, over this seat's translation: Look, Count, Armed, Make, Free, Arm, Stop.
-/
namespace Go.Proofs.YtkkodhjolgcokaaDoor
open Go.RowKit Go.Lib
set_option maxRecDepth 100000

section
variable {w w' : World} {bb rb ro pb po b g lo hi wb n now tu : Nat} {T T' : Nat → Ti} {S : Nat → Bool} {V : Nat → SA.Pr} {A : Nat → Option (Nat × Nat)}
theorem BkP.fit (H : BkP w bb rb ro pb po b g lo hi wb n now tu S V A) (hS : ∀ k, S k = (T' k).is) (hV : ∀ k, V k = (T' k).row) (hA : ∀ k, A k = onW T' k) (ok : TiOk n tu T') : BkMem w bb rb ro pb po b g lo hi wb n now tu T' := by
  obtain rfl : S = fun k => (T' k).is := funext hS
  obtain rfl : V = fun k => (T' k).row := funext hV
  obtain rfl : A = onW T' := funext hA
  exact ⟨H, ok⟩
theorem BkMem.grown (H : BkMem w bb rb ro pb po b g lo hi wb n now tu T) (k : w.grownBy w' none) : BkMem w' bb rb ro pb po b g lo hi wb n now tu T := ⟨H.m.grown k, H.ok⟩
theorem fit_is {p : Nat} {x : Ti} (h : (T p).is = x.is) (k : Nat) : (T k).is = (upV T p x k).is := by
  by_cases e : k = p
  · subst e; rw [upV_same]; exact h
  · rw [upV_other _ _ _ _ e]
theorem fit_row {p : Nat} {x : Ti} {r : SA.Pr} (h : r = x.row) (k : Nat) : upV (fun k => (T k).row) p r k = (upV T p x k).row := by
  subst h
  exact (congrFun (row_up T p x) k).symm
theorem fit_off {p : Nat} {x : Ti} (h : x.st ≠ 1) (k : Nat) : upS (onW T) p Option.none k = onW (upV T p x) k := by
  rw [onW_up, if_neg h]
theorem fit_on {p : Nat} {x : Ti} (h : x.st = 1) (y : Option (Nat × Nat)) (k : Nat) : upS (upS (onW T) p y) p (some (x.t, x.u)) k = onW (upV T p x) k := by
  rw [onW_up, if_pos h, upS_upS]
theorem fit_del {p : Nat} (k : Nat) : del (fun k => (T k).is) p k = (upV T p Ti.none k).is := by
  unfold del
  by_cases e : k = p
  · subst e; rw [upV_same]; simp [Ti.none]
  · rw [upV_other _ _ _ _ e]; simp [e]
theorem fit_ins {p : Nat} (k : Nat) : ins (fun k => (T k).is) p k = (upV T p Ti.idle k).is := by
  unfold ins
  by_cases e : k = p
  · subst e; rw [upV_same]; simp [Ti.idle]
  · rw [upV_other _ _ _ _ e]; simp [e]
theorem none_row : SA.Pr.none = Ti.none.row := rfl
theorem idle_row : SA.Pr.none = Ti.idle.row := rfl
/-- A number is no alarm's any more. -/
theorem unset_any (W : Wl w lo hi wb n now A) (p : Nat) (hp : p < n) :
    Calls Tryd.prog 24 #[.pointer (some ⟨wb, 0, none⟩), .int .i64 p] w fun e w' => (∃ v, e = .returned v) ∧ Only lo hi w w' ∧ Wl w' lo hi wb n now (upS A p none) := by
  rcases hA : A p with _ | v
  · refine (wl_unset_no W p (Or.inr (by simpa using hA))).mono ?_
    rintro e w1 ⟨rfl, rfl⟩
    rw [upS_same_none A p hA]
    exact ⟨⟨_, rfl⟩, Only.refl _ _ _, W⟩
  · refine (wl_unset W p v hp hA).mono ?_
    rintro e w1 ⟨rfl, h1, h2⟩
    exact ⟨⟨_, rfl⟩, h1, h2⟩

set_option maxHeartbeats 1000000 in
theorem look_core (k : Int) (x : SA.Pr) (f : Bool) (h0 : w.cell? ⟨bb, 0, none⟩ = some (.pointer (some ⟨rb, ro, none⟩))) (hl : bb < w.heap.size)
    (C : ∀ w1, w.grownBy w1 none → Calls Tryd.prog 27 #[.pointer (some ⟨rb, ro, none⟩), .int .i64 k] w1 fun e w' => e = .returned (.tuple #[x.val, .bool f]) ∧ w1.grownBy w' none) :
    Calls Tryd.prog 12 #[.pointer (some ⟨bb, 0, none⟩), .int .i64 k] w fun e w' => e = .returned (.tuple #[x.val, .bool f]) ∧ w.grownBy w' none := by
  have ka := World.grownBy_alloc w (.cells #[.int .i64 0, .int .u64 0, .int .u64 0, .int .u64 0] 33) none
  have h1 := (ka.cell_far ⟨bb, 0, none⟩ hl (by simp)).trans h0
  have C2 := Lib.hid (C _ ka)
  have KA := Lib.hid ka
  clear C ka h0
  obtain ⟨a1, a2, a3, a4⟩ := x
  unfold SA.Pr.val at *
  go_enter Tryd.func12, Tryd.ntmps12
  go_wp2_with fail
  refine C2.out.mono ?_
  rintro e w1 ⟨rfl, k1⟩
  have bx : ∀ j, w1.cell? ⟨w.heap.size, j, none⟩ = (w.alloc (.cells #[.int .i64 0, .int .u64 0, .int .u64 0, .int .u64 0] 33)).cell? ⟨w.heap.size, j, none⟩ := fun j => k1.cell_far ⟨w.heap.size, j, none⟩ (by simp) (by simp)
  have bf : ∀ j, w1.frozen? ⟨w.heap.size, j, none⟩ = (w.alloc (.cells #[.int .i64 0, .int .u64 0, .int .u64 0, .int .u64 0] 33)).frozen? ⟨w.heap.size, j, none⟩ := fun j => k1.frozen_far ⟨w.heap.size, j, none⟩ (by simp) (by simp)
  have x1 : w1.cell? ⟨w.heap.size, 0, none⟩ = some (.int .i64 0) := (bx 0).trans (World.cell?_alloc_new ..)
  have x2 : w1.cell? ⟨w.heap.size, 1, none⟩ = some (.int .u64 0) := (bx 1).trans (World.cell?_alloc_new ..)
  have x3 : w1.cell? ⟨w.heap.size, 2, none⟩ = some (.int .u64 0) := (bx 2).trans (World.cell?_alloc_new ..)
  have x4 : w1.cell? ⟨w.heap.size, 3, none⟩ = some (.int .u64 0) := (bx 3).trans (World.cell?_alloc_new ..)
  have y1 : w1.frozen? ⟨w.heap.size, 0, none⟩ = false := (bf 0).trans (by simp)
  have y2 : w1.frozen? ⟨w.heap.size, 1, none⟩ = false := (bf 1).trans (by simp)
  have y3 : w1.frozen? ⟨w.heap.size, 2, none⟩ = false := (bf 2).trans (by simp)
  have y4 : w1.frozen? ⟨w.heap.size, 3, none⟩ = false := (bf 3).trans (by simp)
  have KK := Lib.hid k1
  clear C2 h1 bx bf k1
  go_wp2
  exact bodyPost_ret (v := .tuple #[.agg #[.int .i64 a1, .int .u64 a2, .int .u64 a3, .int .u64 a4], .bool f]) (by simp [results, Tryd.results12, go_sem, x1, x2, x3, x4]) rfl
    ⟨rfl, Only.on (grow_to KA.out KK.out) ((((Only.set (lo := w.heap.size) (hi := w.heap.size + 1) _ ⟨w.heap.size, 0, none⟩ _ (Nat.le_refl _) (Nat.lt_succ_self _)).trans (Only.set _ ⟨w.heap.size, 1, none⟩ _ (Nat.le_refl _) (Nat.lt_succ_self _))).trans (Only.set _ ⟨w.heap.size, 2, none⟩ _ (Nat.le_refl _) (Nat.lt_succ_self _))).trans (Only.set _ ⟨w.heap.size, 3, none⟩ _ (Nat.le_refl _) (Nat.lt_succ_self _))) (Nat.le_refl _)⟩
theorem bk_look_in (p : Nat) (H : BkMem w bb rb ro pb po b g lo hi wb n now tu T) (hp : p < n) (his : (T p).is = true) :
    Calls Tryd.prog 12 #[.pointer (some ⟨bb, 0, none⟩), .int .i64 p] w fun e w' => e = .returned (.tuple #[(T p).row.val, .bool true]) ∧ w.grownBy w' none :=
  look_core p (T p).row true H.m.c0 H.m.l fun w1 k => SA.at_in p (H.m.reg.kept k) hp his
theorem bk_look_no (k : Int) (H : BkMem w bb rb ro pb po b g lo hi wb n now tu T) (hv : k < 0 ∨ (T k.toNat).is = false) :
    Calls Tryd.prog 12 #[.pointer (some ⟨bb, 0, none⟩), .int .i64 k] w fun e w' => e = .returned (.tuple #[SA.Pr.none.val, .bool false]) ∧ w.grownBy w' none :=
  look_core k SA.Pr.none false H.m.c0 H.m.l fun w1 kk => SA.at_no k (H.m.reg.kept kk) (hv.imp_right Or.inr)
theorem bk_count (H : BkMem w bb rb ro pb po b g lo hi wb n now tu T) :
    Calls Tryd.prog 15 #[.pointer (some ⟨bb, 0, none⟩)] w fun e w' => e = .returned (.int .i64 (cnt (fun k => (T k).is) n : Nat)) ∧ w = w' := by
  have h0 := H.m.c0
  have C := Lib.hid (SA.count_any H.m.reg)
  clear H
  go_enter Tryd.func15, Tryd.ntmps15
  go_wp2_with fail
  refine (C.out).mono ?_
  rintro e w' ⟨rfl, rfl⟩
  go_wp2
  go_ret
  exact ⟨rfl, rfl⟩
theorem bk_armed (H : BkMem w bb rb ro pb po b g lo hi wb n now tu T) :
    Calls Tryd.prog 14 #[.pointer (some ⟨bb, 0, none⟩)] w fun e w' => e = .returned (.int .i64 (setN (onW T) n : Nat)) ∧ w = w' := by
  have h1 := H.m.c1
  have C := Lib.hid (wl_len H.m.wl)
  clear H
  go_enter Tryd.func14, Tryd.ntmps14
  go_wp2_with fail
  refine (C.out).mono ?_
  rintro e w' ⟨rfl, rfl⟩
  go_wp2
  go_ret
  exact ⟨rfl, rfl⟩
theorem bk_make_some (p : Nat) (H : BkMem w bb rb ro pb po b g lo hi wb n now tu T) (hT : TabAt w) (hp : p < n) (his : (T p).is = false) (hl : ∀ q, q < p → (T q).is = true) :
    Calls Tryd.prog 9 #[.pointer (some ⟨bb, 0, none⟩)] w fun e w' => e = .returned (.tuple #[.int .i64 p, .bool true]) ∧ BTouch g pb po (n * 4) lo hi bb w w' ∧ BkMem w' bb rb ro pb po b g lo hi wb n now tu (upV T p Ti.idle) := by
  have h0 := H.m.c0
  have C : Hid (Calls Tryd.prog 22 #[.pointer (some ⟨rb, ro, none⟩), .agg #[.int .i64 0, .int .u64 0, .int .u64 0, .int .u64 0]] w fun e w' => e = .returned (.tuple #[.int .i64 p, .bool true]) ∧ Touch g pb po (n * 4) w w' ∧ SA.RegMem w' rb ro pb po b g n (ins (fun k => (T k).is) p) (upV (fun k => (T k).row) p SA.Pr.none)) := Lib.hid (SA.take_some p SA.Pr.none H.m.reg hT hp his hl)
  have F : Hid (∀ w', BkP w' bb rb ro pb po b g lo hi wb n now tu (ins (fun k => (T k).is) p) (upV (fun k => (T k).row) p SA.Pr.none) (onW T) → BkMem w' bb rb ro pb po b g lo hi wb n now tu (upV T p Ti.idle)) := Lib.hid fun w' h =>
    h.fit fit_ins (fit_row rfl) (fun k => by
      rw [← fit_off (T := T) (p := p) (x := Ti.idle) (by decide), upS_same_none]
      have e := H.ok.ok p
      unfold onW
      rw [e.off his]
      rfl) (H.ok.up hp _ Ti.idle_ok (by decide))
  have HH := Lib.hid H.m
  clear H his hl hT
  go_enter Tryd.func9, Tryd.ntmps9
  go_wp2_with fail
  refine C.out.mono ?_
  rintro e w1 ⟨rfl, t1, r1⟩
  have P1 := HH.out.touch t1 r1
  clear t1 r1
  go_wp2
  go_ret2
  exact ⟨rfl, P1.2, F.out _ P1.1⟩
theorem bk_make_none (H : BkMem w bb rb ro pb po b g lo hi wb n now tu T) (hT : TabAt w) (hl : ∀ q, q < n → (T q).is = true) :
    Calls Tryd.prog 9 #[.pointer (some ⟨bb, 0, none⟩)] w fun e w' => e = .returned (.tuple #[.int .i64 0, .bool false]) ∧ w.grownBy w' none := by
  have h0 := H.m.c0
  have C : Hid (Calls Tryd.prog 22 #[.pointer (some ⟨rb, ro, none⟩), .agg #[.int .i64 0, .int .u64 0, .int .u64 0, .int .u64 0]] w fun e w' => e = .returned (.tuple #[.int .i64 0, .bool false]) ∧ w.grownBy w' none) := Lib.hid (SA.take_none SA.Pr.none H.m.reg hT hl)
  clear H hl hT
  go_enter Tryd.func9, Tryd.ntmps9
  go_wp2_with fail
  refine C.out.mono ?_
  rintro e w1 ⟨rfl, k1⟩
  go_wp2
  go_ret2
  exact ⟨rfl, k1⟩

theorem bk_free_in (p : Nat) (H : BkMem w bb rb ro pb po b g lo hi wb n now tu T) (hp : p < n) (his : (T p).is = true) :
    Calls Tryd.prog 17 #[.pointer (some ⟨bb, 0, none⟩), .int .i64 p] w fun e w' => e = .returned (.bool true) ∧ BTouch g pb po (n * 4) lo hi bb w w' ∧ BkMem w' bb rb ro pb po b g lo hi wb n now tu (upV T p Ti.none) := by
  have h1 := H.m.c1
  have C := Lib.hid (unset_any H.m.wl p hp)
  have C2 : Hid (∀ w1, SA.RegMem w1 rb ro pb po b g n (fun k => (T k).is) (fun k => (T k).row) → Calls Tryd.prog 31 #[.pointer (some ⟨rb, ro, none⟩), .int .i64 p] w1 fun e w' => e = .returned (.bool true) ∧ Touch g pb po (n * 4) w1 w' ∧ SA.RegMem w' rb ro pb po b g n (del (fun k => (T k).is) p) (upV (fun k => (T k).row) p SA.Pr.none)) := Lib.hid fun w1 h => SA.give_in p h hp his
  have F : Hid (∀ w', BkP w' bb rb ro pb po b g lo hi wb n now tu (del (fun k => (T k).is) p) (upV (fun k => (T k).row) p SA.Pr.none) (upS (onW T) p none) → BkMem w' bb rb ro pb po b g lo hi wb n now tu (upV T p Ti.none)) := Lib.hid fun w' h =>
    h.fit fit_del (fit_row rfl) (fit_off (by decide)) (H.ok.up hp _ Ti.none_ok (by decide))
  have HH := Lib.hid H.m
  clear H his
  go_enter Tryd.func17, Tryd.ntmps17
  go_wp2_with fail
  refine C.out.mono ?_
  rintro e w1 ⟨⟨v, rfl⟩, t1, r1⟩
  have P1 := Lib.hid (HH.out.turn t1 r1)
  have h0 := P1.out.1.c0
  clear t1 r1 h1
  go_wp2_with fail
  refine (C2.out _ P1.out.1.reg).mono ?_
  rintro e w2 ⟨rfl, t2, r2⟩
  have P2 := P1.out.1.touch t2 r2
  clear t2 r2
  go_wp2
  go_ret
  exact ⟨rfl, P1.out.2.trans P2.2, F.out _ P2.1⟩
theorem bk_free_no (k : Int) (H : BkMem w bb rb ro pb po b g lo hi wb n now tu T) (hv : k < 0 ∨ (T k.toNat).is = false) :
    Calls Tryd.prog 17 #[.pointer (some ⟨bb, 0, none⟩), .int .i64 k] w fun e w' => e = .returned (.bool false) ∧ w.grownBy w' none := by
  have h0 := H.m.c0
  have h1 := H.m.c1
  have C := Lib.hid (wl_unset_no H.m.wl k (hv.imp_right fun h => by
    have e := (H.ok.ok k.toNat).off h
    unfold onW
    rw [e]
    rfl))
  have C2 := Lib.hid (SA.give_no k H.m.reg (hv.imp_right Or.inr))
  clear H hv
  go_enter Tryd.func17, Tryd.ntmps17
  go_wp2_with fail
  refine (C.out).mono ?_
  rintro e w' ⟨rfl, rfl⟩
  go_wp2_with fail
  refine C2.out.mono ?_
  rintro e w1 ⟨rfl, k1⟩
  go_wp2
  go_ret
  exact ⟨rfl, k1⟩

set_option maxHeartbeats 1000000 in
theorem bk_arm_in (p h t pe : Nat) (H : BkMem w bb rb ro pb po b g lo hi wb n now tu T) (hp : p < n) (his : (T p).is = true) (bh : h < 18446744073709551616) (bt : t < 18446744073709551616) (bp : pe < 18446744073709551616) (htu : tu + 1 < 18446744073709551616) :
    Calls Tryd.prog 10 #[.pointer (some ⟨bb, 0, none⟩), .int .i64 p, .int .u64 (h : Nat), .int .u64 (t : Nat), .int .u64 (pe : Nat)] w fun e w' => e = .returned (.bool true) ∧ BTouch g pb po (n * 4) lo hi bb w w' ∧ BkMem w' bb rb ro pb po b g lo hi wb n now (tu + 1) (upV T p ⟨true, 1, h, t, pe, tu⟩) := by
  have h0 := H.m.c0
  have C1 : Hid (Calls Tryd.prog 23 #[.pointer (some ⟨rb, ro, none⟩), .int .i64 p, .agg #[.int .i64 1, .int .u64 (h : Nat), .int .u64 (t : Nat), .int .u64 (pe : Nat)]] w fun e w' => e = .returned (.bool true) ∧ Touch g pb po (n * 4) w w' ∧ SA.RegMem w' rb ro pb po b g n (fun k => (T k).is) (upV (fun k => (T k).row) p ⟨1, h, t, pe⟩)) := Lib.hid (SA.set_in p ⟨1, h, t, pe⟩ H.m.reg hp his)
  have C2 : Hid (∀ w1, Wl w1 lo hi wb n now (onW T) → Calls Tryd.prog 24 #[.pointer (some ⟨wb, 0, none⟩), .int .i64 p] w1 fun e w' => (∃ v, e = .returned v) ∧ Only lo hi w1 w' ∧ Wl w' lo hi wb n now (upS (onW T) p none)) := Lib.hid fun w1 h => unset_any h p hp
  have C3 : Hid (∀ w1, Wl w1 lo hi wb n now (upS (onW T) p none) → Calls Tryd.prog 25 #[.pointer (some ⟨wb, 0, none⟩), .int .i64 p, .int .u64 (t : Nat), .int .u64 (tu : Nat)] w1 fun e w' => e = .returned (.bool true) ∧ Only lo hi w1 w' ∧ Wl w' lo hi wb n now (upS (upS (onW T) p none) p (some (t, tu)))) := Lib.hid fun w1 h => wl_set h p t tu hp (by simp [upS]) bt (by omega)
  have F : Hid (∀ w', BkP w' bb rb ro pb po b g lo hi wb n now (tu + 1) (fun k => (T k).is) (upV (fun k => (T k).row) p ⟨1, h, t, pe⟩) (upS (upS (onW T) p none) p (some (t, tu))) → BkMem w' bb rb ro pb po b g lo hi wb n now (tu + 1) (upV T p ⟨true, 1, h, t, pe, tu⟩)) := Lib.hid fun w' hh =>
    hh.fit (fit_is his) (fit_row rfl) (fit_on (x := ⟨true, 1, h, t, pe, tu⟩) rfl _) (H.ok.arm hp _ ⟨fun e => (by cases e), fun _ e => (by cases e), Nat.le_succ 1, bh, bt, bp⟩ rfl)
  have HH := Lib.hid H.m
  have ew : IntKind.u64.wrap ((tu : Int) + 1) = ((tu + 1 : Nat) : Int) := by rw [IntKind.wrap_u64]; omega
  clear H his
  go_enter Tryd.func10, Tryd.ntmps10
  go_wp2_with fail
  refine C1.out.mono ?_
  rintro e w1 ⟨rfl, t1, r1⟩
  have P1 := Lib.hid (HH.out.touch t1 r1)
  have h1 := P1.out.1.c1
  clear t1 r1 h0
  go_wp2_with fail
  refine (C2.out _ P1.out.1.wl).mono ?_
  rintro e w2 ⟨⟨v, rfl⟩, t2, r2⟩
  have P2 := Lib.hid (P1.out.1.turn t2 r2)
  have Q2 := Lib.hid (P1.out.2.trans P2.out.2)
  clear t2 r2 h1
  have h1 := P2.out.1.c1
  have h2 := P2.out.1.c2
  clear P1
  go_wp2_with fail
  have kd : w2.grownBy w2.drew none := ⟨rfl, rfl, rfl, Nat.le_refl _, fun _ _ _ => rfl⟩
  refine wp_region_held_drew (S := fun x => x.cell? ⟨bb, 1, none⟩ = some (.pointer (some ⟨wb, 0, none⟩)) ∧ x.cell? ⟨bb, 2, none⟩ = some (.int .u64 (tu : Nat))) (by kernel_rfl) ⟨h1, h2⟩ (fun hHeld => ?_)
  have PD := Lib.hid (P2.out.1.grown kd)
  have QD : Hid (BTouch g pb po (n * 4) lo hi bb w w2.drew) := Lib.hid (Q2.out.trans (BTouch.of_none kd P2.out.1.reg.l.2))
  clear P2 Q2 kd h1 h2
  generalize w2.drew = v2 at *
  refine wpAnyH_take (i := 0) (oi := ⟨_, _, _, _, _, _⟩) (v := ?_) rfl (by kernel_rfl) (by kernel_rfl) (by kernel_rfl) (fun _ _ _ h => h) (Or.inl ⟨by rfl, ?_⟩) (by assumption) ?_
  rotate_left
  · intro wz hSw
    try dsimp only at hSw
    go_simp
    try with_reducible rfl
  simp only [Act.put, List.setIfInBounds_toArray, List.set_cons_zero, List.set_cons_succ]
  refine wpAnyH_take (i := 1) (oi := ⟨_, _, _, _, _, _⟩) (v := ?_) rfl (by kernel_rfl) (by kernel_rfl) (by kernel_rfl) (fun _ _ _ h => h) (Or.inl ⟨by rfl, ?_⟩) (by assumption) ?_
  rotate_left
  · intro wz hSw
    try dsimp only at hSw
    go_simp
    try with_reducible rfl
  simp only [Act.put, List.setIfInBounds_toArray, List.set_cons_zero, List.set_cons_succ]
  refine wpAnyH_take (i := 2) (oi := ⟨_, _, _, _, _, _⟩) (v := ?_) rfl (by kernel_rfl) (by kernel_rfl) (by kernel_rfl) (fun _ _ _ h => h) (Or.inl ⟨by rfl, ?_⟩) (by assumption) ?_
  rotate_left
  · intro wz hSw
    try dsimp only at hSw
    go_simp
    try with_reducible rfl
  simp only [Act.put, List.setIfInBounds_toArray, List.set_cons_zero, List.set_cons_succ]
  refine wpAnyH_take (i := 3) (oi := ⟨_, _, _, _, _, _⟩) (v := ?_) rfl (by kernel_rfl) (by kernel_rfl) (by kernel_rfl) (fun _ _ _ h => h) (Or.inl ⟨by rfl, ?_⟩) (by assumption) ?_
  rotate_left
  · intro wz hSw
    try dsimp only at hSw
    go_simp
    try with_reducible rfl
  simp only [Act.put, List.setIfInBounds_toArray, List.set_cons_zero, List.set_cons_succ]
  refine wpAnyH_take (i := 4) (oi := ⟨_, _, _, _, _, _⟩) (v := ?_) rfl (by kernel_rfl) (by kernel_rfl) (by kernel_rfl) (fun _ _ _ h => h) (Or.inl ⟨by rfl, ?_⟩) (by assumption) ?_
  rotate_left
  · intro wz hSw
    try dsimp only at hSw
    go_simp
    try with_reducible rfl
  simp only [Act.put, List.setIfInBounds_toArray, List.set_cons_zero, List.set_cons_succ]
  refine wpAnyH_take (i := 5) (oi := ⟨_, _, _, _, _, _⟩) (v := ?_) rfl (by kernel_rfl) (by kernel_rfl) (by kernel_rfl) (fun _ _ _ h => h) (Or.inl ⟨by rfl, ?_⟩) (by assumption) ?_
  rotate_left
  · intro wz hSw
    try dsimp only at hSw
    go_simp
    try with_reducible rfl
  simp only [Act.put, List.setIfInBounds_toArray, List.set_cons_zero, List.set_cons_succ]
  refine wpAnyH_take (i := 6) (oi := ⟨_, _, _, _, _, _⟩) (v := ?_) rfl (by kernel_rfl) (by kernel_rfl) (by kernel_rfl) (fun _ _ _ h => h) (Or.inl ⟨by rfl, ?_⟩) (by assumption) ?_
  rotate_left
  · intro wz hSw
    try dsimp only at hSw
    go_simp
    try with_reducible rfl
  simp only [Act.put, List.setIfInBounds_toArray, List.set_cons_zero, List.set_cons_succ]
  refine wpAnyH_take (i := 7) (oi := ⟨_, _, _, _, _, _⟩) (v := ?_) rfl (by kernel_rfl) (by kernel_rfl) (by kernel_rfl) (fun _ _ _ h => h) (Or.inl ⟨by rfl, ?_⟩) (by assumption) ?_
  rotate_left
  · intro wz hSw
    try dsimp only at hSw
    go_simp
    try with_reducible rfl
  simp only [Act.put, List.setIfInBounds_toArray, List.set_cons_zero, List.set_cons_succ]
  refine wpAnyH_take (i := 8) (oi := ⟨_, _, _, _, _, _⟩) (v := ?_) rfl (by kernel_rfl) (by kernel_rfl) (by kernel_rfl) (fun _ _ _ h => h) (Or.inl ⟨by rfl, ?_⟩) (by assumption) ?_
  rotate_left
  · intro wz hSw
    try dsimp only at hSw
    go_simp
    try with_reducible rfl
  simp only [Act.put, List.setIfInBounds_toArray, List.set_cons_zero, List.set_cons_succ]
  refine wpAnyH_take (i := 9) (oi := ⟨_, _, _, _, _, _⟩) (v := ?_) rfl (by kernel_rfl) (by kernel_rfl) (by kernel_rfl) (fun _ _ _ h => h) (Or.inl ⟨by rfl, ?_⟩) (by assumption) ?_
  rotate_left
  · intro wz hSw
    try dsimp only at hSw
    go_simp
    try with_reducible rfl
  simp only [Act.put, List.setIfInBounds_toArray, List.set_cons_zero, List.set_cons_succ]
  refine wpAnyH_ready (rs := [10]) (by kernel_rfl) (by simp) ?_
  refine AllReadyH.cons (o := ⟨_, _, _, _, _, _⟩) rfl (fun K hK => ?_) AllReadyH.nil
  go_simp
  refine (C3.out _ PD.out.wl).mono ?_
  rintro e w3 ⟨rfl, t3, r3⟩
  have P3 := Lib.hid (PD.out.turn t3 r3)
  have Q3 := Lib.hid (QD.out.trans P3.out.2)
  clear t3 r3 PD QD
  refine hK.out _ _ ⟨P3.out.1.c1, P3.out.1.c2⟩ (fun hHeld => ?_)
  clear hK K
  try simp only [Act.put, List.setIfInBounds_toArray, List.set_cons_zero, List.set_cons_succ]
  refine wpAnyH_done (by kernel_rfl) ?_ _
  have h2 := P3.out.1.c2
  have f2 := P3.out.1.f2
  have P4 := Lib.hid (P3.out.1.count (tu + 1) htu)
  go_wp2
  go_ret
  exact ⟨rfl, Q3.out.trans P4.out.2, F.out _ P4.out.1⟩
theorem bk_arm_no (k : Int) (h t pe : Nat) (H : BkMem w bb rb ro pb po b g lo hi wb n now tu T) (hv : k < 0 ∨ (T k.toNat).is = false) :
    Calls Tryd.prog 10 #[.pointer (some ⟨bb, 0, none⟩), .int .i64 k, .int .u64 (h : Nat), .int .u64 (t : Nat), .int .u64 (pe : Nat)] w fun e w' => e = .returned (.bool false) ∧ w.grownBy w' none := by
  have h0 := H.m.c0
  have C1 : Hid (Calls Tryd.prog 23 #[.pointer (some ⟨rb, ro, none⟩), .int .i64 k, .agg #[.int .i64 1, .int .u64 (h : Nat), .int .u64 (t : Nat), .int .u64 (pe : Nat)]] w fun e w' => e = .returned (.bool false) ∧ w.grownBy w' none) := Lib.hid (SA.set_no k ⟨1, h, t, pe⟩ H.m.reg (hv.imp_right Or.inr))
  clear H hv
  go_enter Tryd.func10, Tryd.ntmps10
  go_wp2_with fail
  refine C1.out.mono ?_
  rintro e w1 ⟨rfl, k1⟩
  go_wp2
  go_ret
  exact ⟨rfl, k1⟩

set_option maxHeartbeats 1000000 in
theorem bk_stop_in (p : Nat) (H : BkMem w bb rb ro pb po b g lo hi wb n now tu T) (hp : p < n) (hst : (T p).st ≠ 0) :
    Calls Tryd.prog 16 #[.pointer (some ⟨bb, 0, none⟩), .int .i64 p] w fun e w' => e = .returned (.bool true) ∧ BTouch g pb po (n * 4) lo hi bb w w' ∧ BkMem w' bb rb ro pb po b g lo hi wb n now tu (upV T p Ti.idle) := by
  have his : (T p).is = true := by
    cases h : (T p).is with
    | true => rfl
    | false => have := (H.ok.ok p).off h; rw [this] at hst; exact absurd rfl hst
  have h0 := H.m.c0
  have C1 : Hid (Calls Tryd.prog 27 #[.pointer (some ⟨rb, ro, none⟩), .int .i64 p] w fun e w' => e = .returned (.tuple #[.agg #[.int .i64 ((T p).st : Nat), .int .u64 ((T p).h : Nat), .int .u64 ((T p).t : Nat), .int .u64 ((T p).p : Nat)], .bool true]) ∧ w.grownBy w' none) := Lib.hid (SA.at_in p H.m.reg hp his)
  have C2 : Hid (∀ w1, Wl w1 lo hi wb n now (onW T) → Calls Tryd.prog 24 #[.pointer (some ⟨wb, 0, none⟩), .int .i64 p] w1 fun e w' => (∃ v, e = .returned v) ∧ Only lo hi w1 w' ∧ Wl w' lo hi wb n now (upS (onW T) p none)) := Lib.hid fun w1 h => unset_any h p hp
  have C3 : Hid (∀ w1, SA.RegMem w1 rb ro pb po b g n (fun k => (T k).is) (fun k => (T k).row) → Calls Tryd.prog 23 #[.pointer (some ⟨rb, ro, none⟩), .int .i64 p, .agg #[.int .i64 0, .int .u64 0, .int .u64 0, .int .u64 0]] w1 fun e w' => e = .returned (.bool true) ∧ Touch g pb po (n * 4) w1 w' ∧ SA.RegMem w' rb ro pb po b g n (fun k => (T k).is) (upV (fun k => (T k).row) p SA.Pr.none)) := Lib.hid fun w1 h => SA.set_in p SA.Pr.none h hp his
  have F : Hid (∀ w', BkP w' bb rb ro pb po b g lo hi wb n now tu (fun k => (T k).is) (upV (fun k => (T k).row) p SA.Pr.none) (upS (onW T) p none) → BkMem w' bb rb ro pb po b g lo hi wb n now tu (upV T p Ti.idle)) := Lib.hid fun w' hh =>
    hh.fit (fit_is his) (fit_row rfl) (fit_off (by decide)) (H.ok.up hp _ Ti.idle_ok (by decide))
  have HH := Lib.hid H.m
  have hz : (((T p).st : Nat) : Int) ≠ 0 := by omega
  clear H his hst
  generalize (T p).st = s1 at *
  generalize (T p).h = s2 at *
  generalize (T p).t = s3 at *
  generalize (T p).p = s4 at *
  go_enter Tryd.func16, Tryd.ntmps16
  go_wp2_with fail
  refine C1.out.mono ?_
  rintro e w1 ⟨rfl, k1⟩
  replace k1 := k1.trans (World.grownBy_alloc w1 (.cells #[.int .i64 s1, .int .u64 s2, .int .u64 s3, .int .u64 s4] 33) none)
  have P1 := Lib.hid (HH.out.grown k1)
  have Q1 := Lib.hid (BTouch.of_none (g := g) (po := po) (m := n * 4) (lo := lo) (hi := hi) (bb := bb) k1 HH.out.reg.l.2)
  have h1 := P1.out.c1
  clear k1 h0 HH
  go_wp2_with fail
  refine (C2.out _ P1.out.wl).mono ?_
  rintro e w2 ⟨⟨v, rfl⟩, t2, r2⟩
  have P2 := Lib.hid (P1.out.turn t2 r2)
  have Q2 := Lib.hid (Q1.out.trans P2.out.2)
  have h0 := P2.out.1.c0
  clear t2 r2 h1 P1 Q1
  go_wp2_with fail
  refine (C3.out _ P2.out.1.reg).mono ?_
  rintro e w3 ⟨rfl, t3, r3⟩
  have P3 := Lib.hid (P2.out.1.touch t3 r3)
  have Q3 := Lib.hid (Q2.out.trans P3.out.2)
  clear t3 r3 h0
  go_wp2
  go_ret
  exact ⟨rfl, Q3.out, F.out _ P3.out.1⟩
theorem bk_stop_no (k : Int) (H : BkMem w bb rb ro pb po b g lo hi wb n now tu T) (hv : k < 0 ∨ (T k.toNat).st = 0) :
    Calls Tryd.prog 16 #[.pointer (some ⟨bb, 0, none⟩), .int .i64 k] w fun e w' => e = .returned (.bool false) ∧ w.grownBy w' none := by
  have h0 := H.m.c0
  by_cases hk : 0 ≤ k ∧ (T k.toNat).is = true
  · obtain ⟨hk0, his⟩ := hk
    obtain ⟨p, rfl⟩ := Int.eq_ofNat_of_zero_le hk0
    have hst : (T p).st = 0 := by rcases hv with h | h; · omega
                                  · simpa using h
    have his : (T p).is = true := by simpa using his
    have hp : p < n := by
      rcases Nat.lt_or_ge p n with h | h
      · exact h
      · rw [H.ok.far p h] at his; cases his
    have C1 : Hid (Calls Tryd.prog 27 #[.pointer (some ⟨rb, ro, none⟩), .int .i64 p] w fun e w' => e = .returned (.tuple #[.agg #[.int .i64 ((T p).st : Nat), .int .u64 ((T p).h : Nat), .int .u64 ((T p).t : Nat), .int .u64 ((T p).p : Nat)], .bool true]) ∧ w.grownBy w' none) := Lib.hid (SA.at_in p H.m.reg hp his)
    rw [hst] at C1
    clear H his hv hk0 hst
    generalize (T p).h = s2 at *
    generalize (T p).t = s3 at *
    generalize (T p).p = s4 at *
    go_enter Tryd.func16, Tryd.ntmps16
    go_wp2_with fail
    refine C1.out.mono ?_
    rintro e w1 ⟨rfl, k1⟩
    go_wp2
    go_ret
    exact ⟨rfl, k1.trans (World.grownBy_alloc w1 (.cells #[.int .i64 0, .int .u64 s2, .int .u64 s3, .int .u64 s4] 33) none)⟩
  · have hv2 : k < 0 ∨ (n : Int) ≤ k ∨ (T k.toNat).is = false := by
      by_cases h : k < 0
      · exact Or.inl h
      · exact Or.inr (Or.inr (by
          cases h2 : (T k.toNat).is with
          | false => rfl
          | true => exact absurd ⟨by omega, h2⟩ hk))
    have C1 : Hid (Calls Tryd.prog 27 #[.pointer (some ⟨rb, ro, none⟩), .int .i64 k] w fun e w' => e = .returned (.tuple #[.agg #[.int .i64 0, .int .u64 0, .int .u64 0, .int .u64 0], .bool false]) ∧ w.grownBy w' none) := Lib.hid (SA.at_no k H.m.reg hv2)
    clear H hv hk hv2
    go_enter Tryd.func16, Tryd.ntmps16
    go_wp2_with fail
    refine C1.out.mono ?_
    rintro e w1 ⟨rfl, k1⟩
    go_wp2
    go_ret
    exact ⟨rfl, k1.trans (World.grownBy_alloc w1 (.cells #[.int .i64 0, .int .u64 0, .int .u64 0, .int .u64 0] 33) none)⟩
end
end Go.Proofs.YtkkodhjolgcokaaDoor
/-
  Contracts of the functions of package num, over this seat's translation: what each call answers for every pair of 64-bit numbers; the world stays as it was.
-/
namespace Go.Proofs.YtkkodhjolgcokaaDoor
open Go.RowKit Go.Lib
set_option maxRecDepth 100000

theorem add64_run (x y : Nat) (w : World) :
    (callFunc 74 #[.int .u64 x, .int .u64 y, .int .u64 0]).run Tryd.prog w =
      .ok (.value (.tuple #[.int .u64 (((x + y) % 18446744073709551616 : Nat) : Int), .int .u64 (((x + y) / 18446744073709551616 : Nat) : Int)])) w := by
  rw [run_callFunc_extern Tryd.func74 (by kernel_rfl) (by kernel_rfl) (by kernel_rfl) (e := add64Entry) (by kernel_rfl), run_add64 x y 0 (by omega) (by omega) (by omega) (by omega)]
  simp only [Result.andThen]
  congr 5 <;> omega

set_option maxHeartbeats 400000 in
theorem add_ok (a b : Nat) (h : a + b < 18446744073709551616) (w : World) :
    Calls Tryd.prog 53 #[.int .u64 a, .int .u64 b] w fun e w' => e = .returned (.tuple #[.int .u64 ((a + b : Nat) : Int), .bool true]) ∧ w = w' := by
  have e1 : (a + b) % 18446744073709551616 = a + b := by omega
  have e2 : (a + b) / 18446744073709551616 = 0 := by omega
  have hr := add64_run a b w
  rw [e1, e2] at hr
  clear e1 e2
  go_enter Tryd.func53, Tryd.ntmps53
  go_wp2
  go_ret2
  exact ⟨rfl, rfl⟩

set_option maxHeartbeats 400000 in
theorem add_no (a b : Nat) (h : 18446744073709551616 ≤ a + b) (ha : a < 18446744073709551616) (hb : b < 18446744073709551616) (w : World) :
    Calls Tryd.prog 53 #[.int .u64 a, .int .u64 b] w fun e w' => e = .returned (.tuple #[.int .u64 0, .bool false]) ∧ w = w' := by
  have e2 : (a + b) / 18446744073709551616 = 1 := by omega
  have hr := add64_run a b w
  rw [e2] at hr
  clear e2
  go_enter Tryd.func53, Tryd.ntmps53
  go_wp2
  go_ret2
  exact ⟨rfl, rfl⟩

theorem ret_intM {k : IntKind} {a b : Int} (h : a = b) : Ending.returned (.int k a) = .returned (.int k b) := by rw [h]

theorem ret_boolM {a b : Bool} (h : a = b) : Ending.returned (.bool a) = .returned (.bool b) := by rw [h]

set_option maxHeartbeats 400000 in
theorem minus_any (a b : Nat) (ha : a < 18446744073709551616) (w : World) :
    Calls Tryd.prog 54 #[.int .u64 a, .int .u64 b] w fun e w' => e = .returned (.int .u64 ((a - b : Nat) : Int)) ∧ w = w' := by
  by_cases h : a < b
  · go_enter Tryd.func54, Tryd.ntmps54
    go_wp2
    go_ret
    exact ⟨ret_intM (by omega), rfl⟩
  · go_enter Tryd.func54, Tryd.ntmps54
    go_wp2
    go_ret
    exact ⟨ret_intM (by first | omega | (rw [IntKind.wrap_u64]; omega)), rfl⟩

set_option maxHeartbeats 400000 in
theorem clamp_anyM (n lo hi : Int) (w : World) :
    Calls Tryd.prog 58 #[.int .i64 n, .int .i64 lo, .int .i64 hi] w fun e w' => e = .returned (.int .i64 (max lo (min n hi))) ∧ w = w' := by
  go_enter Tryd.func58, Tryd.ntmps58
  go_wp2
  all_goals
    go_ret
    exact ⟨ret_intM (by omega), rfl⟩

def plusN (a b : Nat) : Nat := if a + b < 18446744073709551616 then a + b else 18446744073709551615


theorem maskN (a : Nat) (ha : a < 18446744073709551616) : bits .and .u64 (a : Int) 4294967295 = ((a % 4294967296 : Nat) : Int) := by
  have h := bits_and_u64_nat a 4294967295 ha (by omega)
  have e : a &&& 4294967295 = a % 4294967296 := Nat.and_two_pow_sub_one_eq_mod a 32
  rw [e] at h
  exact h
theorem divN (a : Nat) : (a : Int) / 4294967296 = ((a / 4294967296 : Nat) : Int) := by omega
theorem mulN (a b : Nat) : (a : Int) * (b : Int) = ((a * b : Nat) : Int) := (Int.natCast_mul a b).symm
theorem addN (a b : Nat) : (a : Int) + (b : Int) = ((a + b : Nat) : Int) := (Int.natCast_add a b).symm
theorem wrapN (a : Nat) (ha : a < 18446744073709551616) : IntKind.u64.wrap (a : Int) = (a : Int) := by rw [IntKind.wrap_u64]; omega
theorem wrapM (a : Nat) : IntKind.u64.wrap (a : Int) = ((a % 18446744073709551616 : Nat) : Int) := by rw [IntKind.wrap_u64]; omega

set_option maxHeartbeats 1000000 in
theorem mul64_any (x y : Nat) (hx : x < 18446744073709551616) (hy : y < 18446744073709551616) (w : World) :
    Calls Tryd.prog 75 #[.int .u64 x, .int .u64 y] w fun e w' => e = .returned (.tuple #[.int .u64 ((x * y / 18446744073709551616 : Nat) : Int), .int .u64 ((x * y % 18446744073709551616 : Nat) : Int)]) ∧ w = w' := by
  obtain ⟨bd, bt, bw, hhi⟩ := Lib.mul64_hi x y hx hy
  have ba := Lib.half_mul_le (a := x / 4294967296) (b := y / 4294967296) (by omega) (by omega)
  have bb := Lib.half_mul_le (a := x / 4294967296) (b := y % 4294967296) (by omega) (by omega)
  have bc := Lib.half_mul_le (a := x % 4294967296) (b := y / 4294967296) (by omega) (by omega)
  have ba' : x / 4294967296 * (y / 4294967296) < 18446744073709551616 := by omega
  have bb' : x / 4294967296 * (y % 4294967296) < 18446744073709551616 := by omega
  have bc' : x % 4294967296 * (y / 4294967296) < 18446744073709551616 := by omega
  have bh1 : x / 4294967296 * (y / 4294967296) + (x / 4294967296 * (y % 4294967296) + x % 4294967296 * (y % 4294967296) / 4294967296) / 4294967296 < 18446744073709551616 := by omega
  have bh : x / 4294967296 * (y / 4294967296) + (x / 4294967296 * (y % 4294967296) + x % 4294967296 * (y % 4294967296) / 4294967296) / 4294967296 + ((x / 4294967296 * (y % 4294967296) + x % 4294967296 * (y % 4294967296) / 4294967296) % 4294967296 + x % 4294967296 * (y / 4294967296)) / 4294967296 < 18446744073709551616 := by omega
  have HH := Lib.hid hhi
  clear hhi
  go_enter Tryd.func75, Tryd.ntmps75
  go_wp2
  simp only [maskN x hx, maskN y hy, divN, mulN, addN, wrapN _ bd, wrapN _ bb', wrapN _ bt, maskN _ bt, wrapN _ bc', wrapN _ bw, wrapN _ ba', wrapN _ bh1, wrapN _ bh, wrapM (x * y)]
  rw [HH.out]
  go_ret2
  exact ⟨rfl, rfl⟩

set_option maxHeartbeats 400000 in
theorem times_ok (a b : Nat) (ha : a < 18446744073709551616) (hb : b < 18446744073709551616) (h : a * b < 18446744073709551616) (w : World) :
    Calls Tryd.prog 55 #[.int .u64 a, .int .u64 b] w fun e w' => e = .returned (.tuple #[.int .u64 ((a * b : Nat) : Int), .bool true]) ∧ w = w' := by
  have c := mul64_any a b ha hb w
  rw [show a * b / 18446744073709551616 = 0 by omega, show a * b % 18446744073709551616 = a * b by omega] at c
  have C := Lib.hid c; clear c
  go_enter Tryd.func55, Tryd.ntmps55
  go_wp2_with (go_at_call 75; refine C.out.mono ?_; rintro e w' ⟨rfl, rfl⟩)
  go_ret2
  exact ⟨rfl, rfl⟩

set_option maxHeartbeats 400000 in
theorem times_no (a b : Nat) (ha : a < 18446744073709551616) (hb : b < 18446744073709551616) (h : 18446744073709551616 ≤ a * b) (w : World) :
    Calls Tryd.prog 55 #[.int .u64 a, .int .u64 b] w fun e w' => e = .returned (.tuple #[.int .u64 0, .bool false]) ∧ w = w' := by
  have c := mul64_any a b ha hb w
  have hp : 0 < a * b / 18446744073709551616 := by omega
  generalize a * b / 18446744073709551616 = q at c hp
  have C := Lib.hid c; clear c
  have hq : ((q : Int) != 0) = true := by simp; omega
  go_enter Tryd.func55, Tryd.ntmps55
  go_wp2_with (go_at_call 75; refine C.out.mono ?_; rintro e w' ⟨rfl, rfl⟩)
  go_ret2
  exact ⟨rfl, rfl⟩

def ceilN (a b : Nat) : Nat := if b = 0 then 0 else if a % b = 0 then a / b else a / b + 1

theorem quoN (a b : Nat) (ha : a < 18446744073709551616) : IntKind.u64.wrap ((a : Int) / (b : Int)) = ((a / b : Nat) : Int) := by
  have h : a / b ≤ a := Nat.div_le_self a b
  rw [← Int.natCast_ediv, wrapN _ (by omega)]

theorem ceil_lt (a b : Nat) (ha : a < 18446744073709551616) (h1 : ¬ a % b = 0) : a / b + 1 < 18446744073709551616 := by
  rcases b with _ | _ | b
  · simp
  · simp [Nat.mod_one] at h1
  · have := Nat.div_le_div_left (a := a) (show 2 ≤ b + 2 by omega) (by omega)
    show a / (b + 2) + 1 < _
    omega


theorem add1_ok (a : Nat) (h : a + 1 < 18446744073709551616) (w : World) :
    Calls Tryd.prog 53 #[.int .u64 a, .int .u64 1] w fun e w' => e = .returned (.tuple #[.int .u64 ((a + 1 : Nat) : Int), .bool true]) ∧ w = w' := add_ok a 1 h w
theorem add1_no (a : Nat) (h : 18446744073709551616 ≤ a + 1) (ha : a < 18446744073709551616) (w : World) :
    Calls Tryd.prog 53 #[.int .u64 a, .int .u64 1] w fun e w' => e = .returned (.tuple #[.int .u64 0, .bool false]) ∧ w = w' := add_no a 1 h ha (by omega) w

/-- How many periods on the next time is. -/
def turnsN (d p e : Nat) : Nat := (e - d) / p + 1

set_option maxHeartbeats 400000 in
theorem next_ok (d p e : Nat) (hd : d < 18446744073709551616) (hp : p < 18446744073709551616) (he : e < 18446744073709551616) (h0 : 0 < p)
    (h : d + turnsN d p e * p < 18446744073709551616) (w : World) :
    Calls Tryd.prog 28 #[.int .u64 d, .int .u64 p, .int .u64 e] w fun r w' => r = .returned (.tuple #[.int .u64 ((d + turnsN d p e * p : Nat) : Int), .int .u64 (turnsN d p e : Nat), .bool true]) ∧ w = w' := by
  have hz : ((p : Int) == 0) = false := by simp; omega
  have hm : turnsN d p e * 1 ≤ turnsN d p e * p := Nat.mul_le_mul_left _ h0
  have hq := Lib.hid (quoN (e - d) p (by omega))
  have HT := Lib.hid (show turnsN d p e = (e - d) / p + 1 from rfl)
  generalize turnsN d p e = n at *
  have hle : e - d < 18446744073709551616 := by omega
  have hnp : n * p < 18446744073709551616 := by omega
  have hn1 : n < 18446744073709551616 := by omega
  go_enter Tryd.func28, Tryd.ntmps28
  go_wp2_with fail
  refine (minus_any e d he _).mono ?_
  rintro r w' ⟨rfl, rfl⟩
  go_wp2_with fail
  rw [hq.out]
  refine (add1_ok _ (by rw [← HT.out]; exact hn1) _).mono ?_
  rw [← HT.out]
  rintro r w' ⟨rfl, rfl⟩
  go_wp2_with fail
  refine (times_ok n p hn1 hp hnp _).mono ?_
  rintro r w' ⟨rfl, rfl⟩
  go_wp2_with fail
  refine (add_ok d (n * p) h _).mono ?_
  rintro r w' ⟨rfl, rfl⟩
  go_wp2
  go_ret3
  exact ⟨rfl, rfl⟩

set_option maxHeartbeats 400000 in
theorem next_zero (d e : Nat) (w : World) :
    Calls Tryd.prog 28 #[.int .u64 d, .int .u64 0, .int .u64 e] w fun r w' => r = .returned (.tuple #[.int .u64 0, .int .u64 0, .bool false]) ∧ w = w' := by
  go_enter Tryd.func28, Tryd.ntmps28
  go_wp2
  go_ret3
  exact ⟨rfl, rfl⟩

set_option maxHeartbeats 400000 in
theorem next_no (d p e : Nat) (hd : d < 18446744073709551616) (hp : p < 18446744073709551616) (he : e < 18446744073709551616) (h0 : 0 < p)
    (h : 18446744073709551616 ≤ d + turnsN d p e * p) (w : World) :
    Calls Tryd.prog 28 #[.int .u64 d, .int .u64 p, .int .u64 e] w fun r w' => r = .returned (.tuple #[.int .u64 0, .int .u64 0, .bool false]) ∧ w = w' := by
  have hz : ((p : Int) == 0) = false := by simp; omega
  have hq := Lib.hid (quoN (e - d) p (by omega))
  have HT := Lib.hid (show turnsN d p e = (e - d) / p + 1 from rfl)
  have hdl : (e - d) / p ≤ e - d := Nat.div_le_self _ _
  by_cases h1 : 18446744073709551616 ≤ turnsN d p e
  · go_enter Tryd.func28, Tryd.ntmps28
    go_wp2_with fail
    refine (minus_any e d he _).mono ?_
    rintro r w' ⟨rfl, rfl⟩
    go_wp2_with fail
    rw [hq.out]
    refine (add1_no _ (by rw [← HT.out]; exact h1) (by omega) _).mono ?_
    rintro r w' ⟨rfl, rfl⟩
    go_wp2
    go_ret3
    exact ⟨rfl, rfl⟩
  · by_cases h2 : 18446744073709551616 ≤ turnsN d p e * p
    · generalize turnsN d p e = n at *
      go_enter Tryd.func28, Tryd.ntmps28
      go_wp2_with fail
      refine (minus_any e d he _).mono ?_
      rintro r w' ⟨rfl, rfl⟩
      go_wp2_with fail
      rw [hq.out]
      refine (add1_ok _ (by rw [← HT.out]; omega) _).mono ?_
      rw [← HT.out]
      rintro r w' ⟨rfl, rfl⟩
      go_wp2_with fail
      refine (times_no n p (by omega) hp h2 _).mono ?_
      rintro r w' ⟨rfl, rfl⟩
      go_wp2
      go_ret3
      exact ⟨rfl, rfl⟩
    · generalize turnsN d p e = n at *
      have h2' : n * p < 18446744073709551616 := by omega
      go_enter Tryd.func28, Tryd.ntmps28
      go_wp2_with fail
      refine (minus_any e d he _).mono ?_
      rintro r w' ⟨rfl, rfl⟩
      go_wp2_with fail
      rw [hq.out]
      refine (add1_ok _ (by rw [← HT.out]; omega) _).mono ?_
      rw [← HT.out]
      rintro r w' ⟨rfl, rfl⟩
      go_wp2_with fail
      refine (times_ok n p (by omega) hp h2' _).mono ?_
      rintro r w' ⟨rfl, rfl⟩
      go_wp2_with fail
      refine (add_no d (n * p) h hd h2' _).mono ?_
      rintro r w' ⟨rfl, rfl⟩
      go_wp2
      go_ret3
      exact ⟨rfl, rfl⟩

end Go.Proofs.YtkkodhjolgcokaaDoor
/-
  Contracts of package alarm, over this seat's translation: Sent.
-/
namespace Go.Proofs.YtkkodhjolgcokaaDoor
open Go.RowKit Go.Lib
set_option maxRecDepth 100000

section
variable {w w' : World} {bb rb ro pb po b g lo hi wb n now tu : Nat} {T : Nat → Ti}
theorem bk_sent_no (k : Int) (s : Nat) (H : BkMem w bb rb ro pb po b g lo hi wb n now tu T) (hv : k < 0 ∨ (T k.toNat).st ≠ 2) :
    Calls Tryd.prog 13 #[.pointer (some ⟨bb, 0, none⟩), .int .i64 k, .int .u64 (s : Nat)] w fun e w' => e = .returned (.int .u64 0) ∧ w.grownBy w' none := by
  have h0 := H.m.c0
  by_cases hk : 0 ≤ k ∧ (T k.toNat).is = true
  · obtain ⟨hk0, his⟩ := hk
    obtain ⟨p, rfl⟩ := Int.eq_ofNat_of_zero_le hk0
    have hst : (T p).st ≠ 2 := by
      rcases hv with h | h
      · omega
      · simpa using h
    have his : (T p).is = true := by simpa using his
    have hp : p < n := by
      rcases Nat.lt_or_ge p n with h | h
      · exact h
      · rw [H.ok.far p h] at his; cases his
    have C1 : Hid (Calls Tryd.prog 27 #[.pointer (some ⟨rb, ro, none⟩), .int .i64 p] w fun e w' => e = .returned (.tuple #[.agg #[.int .i64 ((T p).st : Nat), .int .u64 ((T p).h : Nat), .int .u64 ((T p).t : Nat), .int .u64 ((T p).p : Nat)], .bool true]) ∧ w.grownBy w' none) := Lib.hid (SA.at_in p H.m.reg hp his)
    have hz : (((T p).st : Nat) : Int) ≠ 2 := by omega
    clear H his hv hk0 hst
    generalize (T p).st = s1 at *
    generalize (T p).h = s2 at *
    generalize (T p).t = s3 at *
    generalize (T p).p = s4 at *
    go_enter Tryd.func13, Tryd.ntmps13
    go_wp2_with fail
    refine C1.out.mono ?_
    rintro e w1 ⟨rfl, k1⟩
    go_wp2
    go_ret
    exact ⟨rfl, k1.trans (World.grownBy_alloc w1 (.cells #[.int .i64 s1, .int .u64 s2, .int .u64 s3, .int .u64 s4] 33) none)⟩
  · have hv2 : k < 0 ∨ (n : Int) ≤ k ∨ (T k.toNat).is = false := by
      by_cases h : k < 0
      · exact Or.inl h
      · exact Or.inr (Or.inr (by
          cases h2 : (T k.toNat).is with
          | false => rfl
          | true => exact absurd ⟨by omega, h2⟩ hk))
    have C1 : Hid (Calls Tryd.prog 27 #[.pointer (some ⟨rb, ro, none⟩), .int .i64 k] w fun e w' => e = .returned (.tuple #[.agg #[.int .i64 0, .int .u64 0, .int .u64 0, .int .u64 0], .bool false]) ∧ w.grownBy w' none) := Lib.hid (SA.at_no k H.m.reg hv2)
    clear H hv hk hv2
    go_enter Tryd.func13, Tryd.ntmps13
    go_wp2_with fail
    refine C1.out.mono ?_
    rintro e w1 ⟨rfl, k1⟩
    go_wp2
    go_ret
    exact ⟨rfl, k1.trans (World.grownBy_alloc w1 (.cells #[.int .i64 0, .int .u64 0, .int .u64 0, .int .u64 0] 33) none)⟩

theorem BkMem.isd (H : BkMem w bb rb ro pb po b g lo hi wb n now tu T) {p : Nat} (hst : (T p).st ≠ 0) : (T p).is = true ∧ p < n := by
  have his : (T p).is = true := by
    cases h : (T p).is with
    | true => rfl
    | false => have := (H.ok.ok p).off h; rw [this] at hst; exact absurd rfl hst
  refine ⟨his, ?_⟩
  rcases Nat.lt_or_ge p n with h | h
  · exact h
  · rw [H.ok.far p h] at his; cases his

set_option maxHeartbeats 1000000 in
theorem bk_sent_once (p s : Nat) (H : BkMem w bb rb ro pb po b g lo hi wb n now tu T) (hst : (T p).st = 2) (hs : s < 18446744073709551616) (hno : (T p).p = 0 ∨ 18446744073709551616 ≤ (T p).t + turnsN (T p).t (T p).p s * (T p).p) :
    Calls Tryd.prog 13 #[.pointer (some ⟨bb, 0, none⟩), .int .i64 p, .int .u64 (s : Nat)] w fun e w' => e = .returned (.int .u64 1) ∧ BTouch g pb po (n * 4) lo hi bb w w' ∧ BkMem w' bb rb ro pb po b g lo hi wb n now tu (upV T p Ti.idle) := by
  obtain ⟨his, hp⟩ := H.isd (p := p) (by omega)
  have h0 := H.m.c0
  have C1 : Hid (Calls Tryd.prog 27 #[.pointer (some ⟨rb, ro, none⟩), .int .i64 p] w fun e w' => e = .returned (.tuple #[.agg #[.int .i64 ((T p).st : Nat), .int .u64 ((T p).h : Nat), .int .u64 ((T p).t : Nat), .int .u64 ((T p).p : Nat)], .bool true]) ∧ w.grownBy w' none) := Lib.hid (SA.at_in p H.m.reg hp his)
  rw [hst] at C1
  have C2 : Hid (∀ v : World, Calls Tryd.prog 28 #[.int .u64 ((T p).t : Nat), .int .u64 ((T p).p : Nat), .int .u64 (s : Nat)] v fun r w' => r = .returned (.tuple #[.int .u64 0, .int .u64 0, .bool false]) ∧ v = w') := Lib.hid fun v => by
    have bd := (H.ok.ok p).bd
    by_cases h : (T p).p = 0
    · rw [h]; exact next_zero _ _ v
    · exact next_no _ _ _ bd.2.1 bd.2.2 hs (by omega) (hno.resolve_left h) v
  have C3 : Hid (∀ w1, SA.RegMem w1 rb ro pb po b g n (fun k => (T k).is) (fun k => (T k).row) → Calls Tryd.prog 23 #[.pointer (some ⟨rb, ro, none⟩), .int .i64 p, .agg #[.int .i64 0, .int .u64 0, .int .u64 0, .int .u64 0]] w1 fun e w' => e = .returned (.bool true) ∧ Touch g pb po (n * 4) w1 w' ∧ SA.RegMem w' rb ro pb po b g n (fun k => (T k).is) (upV (fun k => (T k).row) p SA.Pr.none)) := Lib.hid fun w1 h => SA.set_in p SA.Pr.none h hp his
  have F : Hid (∀ w', BkP w' bb rb ro pb po b g lo hi wb n now tu (fun k => (T k).is) (upV (fun k => (T k).row) p SA.Pr.none) (onW T) → BkMem w' bb rb ro pb po b g lo hi wb n now tu (upV T p Ti.idle)) := Lib.hid fun w' hh =>
    hh.fit (fit_is his) (fit_row rfl) (fun k => by
      rw [← fit_off (T := T) (p := p) (x := Ti.idle) (by decide), upS_same_none]
      unfold onW
      rw [hst]
      rfl) (H.ok.up hp _ Ti.idle_ok (by decide))
  have HH := Lib.hid H.m
  clear H his hst hno
  generalize (T p).h = s2 at *
  generalize (T p).t = s3 at *
  generalize (T p).p = s4 at *
  go_enter Tryd.func13, Tryd.ntmps13
  go_wp2_with fail
  refine C1.out.mono ?_
  rintro e w1 ⟨rfl, k1⟩
  replace k1 := k1.trans (World.grownBy_alloc w1 (.cells #[.int .i64 2, .int .u64 s2, .int .u64 s3, .int .u64 s4] 33) none)
  have P1 := Lib.hid (HH.out.grown k1)
  have Q1 := Lib.hid (BTouch.of_none (g := g) (po := po) (m := n * 4) (lo := lo) (hi := hi) (bb := bb) k1 HH.out.reg.l.2)
  clear k1 h0 HH
  have h0 := P1.out.c0
  go_wp2_with fail
  refine (C2.out _).mono ?_
  rintro e w' ⟨rfl, rfl⟩
  go_wp2_with fail
  refine (C3.out _ P1.out.reg).mono ?_
  rintro e w3 ⟨rfl, t3, r3⟩
  have P3 := Lib.hid (P1.out.touch t3 r3)
  have Q3 := Lib.hid (Q1.out.trans P3.out.2)
  clear t3 r3 h0
  go_wp2
  go_ret
  exact ⟨rfl, Q3.out, F.out _ P3.out.1⟩

set_option maxHeartbeats 1000000 in
theorem bk_sent_again (p s : Nat) (H : BkMem w bb rb ro pb po b g lo hi wb n now tu T) (hst : (T p).st = 2) (hs : s < 18446744073709551616) (hpe : 0 < (T p).p) (hno : (T p).t + turnsN (T p).t (T p).p s * (T p).p < 18446744073709551616) (htu : tu + 1 < 18446744073709551616) :
    Calls Tryd.prog 13 #[.pointer (some ⟨bb, 0, none⟩), .int .i64 p, .int .u64 (s : Nat)] w fun e w' => e = .returned (.int .u64 (turnsN (T p).t (T p).p s : Nat)) ∧ BTouch g pb po (n * 4) lo hi bb w w' ∧ BkMem w' bb rb ro pb po b g lo hi wb n now (tu + 1) (upV T p ⟨true, 1, (T p).h, (T p).t + turnsN (T p).t (T p).p s * (T p).p, (T p).p, tu⟩) := by
  obtain ⟨his, hp⟩ := H.isd (p := p) (by omega)
  have h0 := H.m.c0
  have bd := (H.ok.ok p).bd
  have C1 : Hid (Calls Tryd.prog 27 #[.pointer (some ⟨rb, ro, none⟩), .int .i64 p] w fun e w' => e = .returned (.tuple #[.agg #[.int .i64 ((T p).st : Nat), .int .u64 ((T p).h : Nat), .int .u64 ((T p).t : Nat), .int .u64 ((T p).p : Nat)], .bool true]) ∧ w.grownBy w' none) := Lib.hid (SA.at_in p H.m.reg hp his)
  rw [hst] at C1
  have C2 : Hid (∀ v : World, Calls Tryd.prog 28 #[.int .u64 ((T p).t : Nat), .int .u64 ((T p).p : Nat), .int .u64 (s : Nat)] v fun r w' => r = .returned (.tuple #[.int .u64 (((T p).t + turnsN (T p).t (T p).p s * (T p).p : Nat) : Int), .int .u64 (turnsN (T p).t (T p).p s : Nat), .bool true]) ∧ v = w') := Lib.hid fun v => next_ok _ _ _ bd.2.1 bd.2.2 hs hpe hno v
  have C3 : Hid (∀ w1, BkMem w1 bb rb ro pb po b g lo hi wb n now tu T → Calls Tryd.prog 10 #[.pointer (some ⟨bb, 0, none⟩), .int .i64 p, .int .u64 ((T p).h : Nat), .int .u64 (((T p).t + turnsN (T p).t (T p).p s * (T p).p : Nat) : Int), .int .u64 ((T p).p : Nat)] w1 fun e w' => e = .returned (.bool true) ∧ BTouch g pb po (n * 4) lo hi bb w1 w' ∧ BkMem w' bb rb ro pb po b g lo hi wb n now (tu + 1) (upV T p ⟨true, 1, (T p).h, (T p).t + turnsN (T p).t (T p).p s * (T p).p, (T p).p, tu⟩)) := Lib.hid fun w1 h => bk_arm_in p _ _ _ h hp his bd.1 hno bd.2.2 htu
  have HH := Lib.hid H
  clear H his hst hno bd
  generalize hA : (T p).t + turnsN (T p).t (T p).p s * (T p).p = A at *
  generalize turnsN (T p).t (T p).p s = tn at *
  generalize (T p).h = s2 at *
  generalize (T p).t = s3 at *
  generalize (T p).p = s4 at *
  clear hA
  go_enter Tryd.func13, Tryd.ntmps13
  go_wp2_with fail
  refine C1.out.mono ?_
  rintro e w1 ⟨rfl, k1⟩
  replace k1 := k1.trans (World.grownBy_alloc w1 (.cells #[.int .i64 2, .int .u64 s2, .int .u64 s3, .int .u64 s4] 33) none)
  have P1 := Lib.hid (HH.out.grown k1)
  have Q1 := Lib.hid (BTouch.of_none (g := g) (po := po) (m := n * 4) (lo := lo) (hi := hi) (bb := bb) k1 HH.out.m.reg.l.2)
  clear k1 h0 HH
  go_wp2_with fail
  refine (C2.out _).mono ?_
  rintro e w' ⟨rfl, rfl⟩
  go_wp2_with fail
  refine (C3.out _ P1.out).mono ?_
  rintro e w3 ⟨rfl, t3, r3⟩
  have Q3 := Lib.hid (Q1.out.trans t3)
  have P3 := Lib.hid r3
  clear t3 r3
  go_wp2
  go_ret
  exact ⟨rfl, Q3.out, P3.out⟩
end
end Go.Proofs.YtkkodhjolgcokaaDoor
