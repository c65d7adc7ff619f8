/-
  A poll's calls: Watch, Unwatch, Ack, Tell, Look, isOpen; what the queue does of them.
-/
import Derived.Test.YtpnipmjjhiaieaaPoll1
import Derived.Deep.RegionHeld3
namespace Go.Proofs.Ytpnipmjjhiaieaa
open Go.RowKit Go.Lib BN
set_option maxRecDepth 100000
set_option linter.unusedVariables false
def dropD (T D : Nat) (Q : List Nat) (d : Int) : List Nat := match inQ T D Q 2 d with
  | some j => Q.erase j
  | none => Q
def pushD (T D : Nat) (M : Int) (Q : List Nat) (d : Int) : List Nat × Bool := match canP T D M Q 2 d with
  | some j => (Q ++ [j], true)
  | none => (Q, false)
section
variable {w w' : World} {pb gb bb c qb lo hi n cap T D f : Nat} {Mx : Int} {G : Nat → Gt} {L : List (Nat × (Int × Int))} {Q : List Nat}

theorem qu_dropD (H : Qu w lo hi qb T D Mx Q) (d : Int) : Calls Try.prog 30 #[.pointer (some ⟨qb, 0, none⟩), .agg #[.int .i64 2, .int .i64 d]] w fun e w' => ∃ b, e = .returned (.bool b) ∧ Only lo hi w w' ∧ Qu w' lo hi qb T D Mx (dropD T D Q d) := by
  unfold dropD
  cases h : inQ T D Q 2 d with
  | some j => exact (qu_drop_yes H 2 d j h).mono fun e w' ⟨h1, h2, h3⟩ => ⟨true, h1, h2, h3⟩
  | none => exact (qu_drop_no H 2 d h).mono fun e w' ⟨h1, h2⟩ => ⟨false, h1, Only.of_none h2, H.kept h2⟩
theorem qu_pushD (H : Qu w lo hi qb T D Mx Q) (d : Int) : Calls Try.prog 61 #[.pointer (some ⟨qb, 0, none⟩), .agg #[.int .i64 2, .int .i64 d]] w fun e w' => e = .returned (.bool (pushD T D Mx Q d).2) ∧ Only lo hi w w' ∧ Qu w' lo hi qb T D Mx (pushD T D Mx Q d).1 := by
  unfold pushD
  cases h : canP T D Mx Q 2 d with
  | some j => exact qu_push_yes H 2 d j h
  | none => exact (qu_push_no H 2 d h).mono fun e w' ⟨h1, h2⟩ => ⟨h1, Only.of_none h2, H.kept h2⟩
theorem PoM.turn {d : Nat} {g : Gt} (H : PoM w pb gb bb c qb lo hi n cap T D Mx G L f Q) (h : GAt w' gb (d * 7) g) (k : OnlyG gb (d * 7) w w') (hm : mdOk g) : PoM w' pb gb bb c qb lo hi n cap T D Mx (updG G d g) L f Q :=
  H.gates k.k (H.gs.turn h k hm)
theorem PoM.drew (H : PoM w pb gb bb c qb lo hi n cap T D Mx G L f Q) : PoM w.drew pb gb bb c qb lo hi n cap T D Mx G L f Q := H.kept (gd (World.grownBy.refl _ _))
theorem ownB_g {a b : World} (k : Only gb (gb + 1) a b) : OnlyB (ownP pb gb bb c lo hi L) a b := k.toB fun j h1 h2 => Or.inr (Or.inl (by omega))
theorem ownB_q {a b : World} (k : Only lo hi a b) : OnlyB (ownP pb gb bb c lo hi L) a b := k.toB fun j h1 h2 => Or.inr (Or.inr (Or.inr (Or.inr (Or.inl ⟨h1, h2⟩))))
theorem ownB_p {a b : World} (k : Only pb (pb + 1) a b) : OnlyB (ownP pb gb bb c lo hi L) a b := k.toB fun j h1 h2 => Or.inl (by omega)
theorem ownB_n {a b : World} (k : OnlyB (fun k => k = c ∨ ∃ x ∈ L, k = x.1) a b) : OnlyB (ownP pb gb bb c lo hi L) a b :=
  ⟨k.os, k.tape, k.output, k.size, fun j hj hr => k.block j hj fun h => hr (by
    rcases h with h | h
    · exact Or.inr (Or.inr (Or.inr (Or.inl h)))
    · exact Or.inr (Or.inr (Or.inr (Or.inr (Or.inr h)))))⟩

theorem po_watch_no (H : PoM w pb gb bb c qb lo hi n cap T D Mx G L f Q) (d : Int) (h x m : Int) (hd : hasD n d = false) : Calls Try.prog 16 #[.pointer (some ⟨pb, 0, none⟩), .int .i64 d, .int .u64 h, .int .i64 x, .int .i64 m] w fun e w' => e = .returned (.bool false) ∧ w = w' := by
  have C := Lib.hid (po_has H d)
  rw [hd] at C
  clear H hd
  go_enter Try.func16, Try.ntmps16
  go_wp2_with fail
  refine C.out.mono ?_
  rintro e w1 ⟨rfl, rfl⟩
  go_wp2
  go_ret
  exact ⟨rfl, rfl⟩

theorem po_unwatch_no (H : PoM w pb gb bb c qb lo hi n cap T D Mx G L f Q) (d : Int) (hd : hasD n d = false) : Calls Try.prog 20 #[.pointer (some ⟨pb, 0, none⟩), .int .i64 d] w fun e w' => e = .returned (.bool false) ∧ w = w' := by
  have C := Lib.hid (po_has H d)
  rw [hd] at C
  clear H hd
  go_enter Try.func20, Try.ntmps20
  go_wp2_with fail
  refine C.out.mono ?_
  rintro e w1 ⟨rfl, rfl⟩
  go_wp2
  go_ret
  exact ⟨rfl, rfl⟩

theorem po_ack_no (H : PoM w pb gb bb c qb lo hi n cap T D Mx G L f Q) (d : Int) (m : Int) (hd : hasD n d = false) : Calls Try.prog 21 #[.pointer (some ⟨pb, 0, none⟩), .int .i64 d, .int .i64 m] w fun e w' => e = .returned (.int .i64 0) ∧ w = w' := by
  have C := Lib.hid (po_has H d)
  rw [hd] at C
  clear H hd
  go_enter Try.func21, Try.ntmps21
  go_wp2_with fail
  refine C.out.mono ?_
  rintro e w1 ⟨rfl, rfl⟩
  go_wp2
  go_ret
  exact ⟨rfl, rfl⟩

theorem po_tell_no (H : PoM w pb gb bb c qb lo hi n cap T D Mx G L f Q) (d : Int) (hd : hasD n d = false) : Calls Try.prog 19 #[.pointer (some ⟨pb, 0, none⟩), .int .i64 d] w fun e w' => e = .returned (.tuple #[.int .u64 0, .int .i64 0]) ∧ w = w' := by
  have C := Lib.hid (po_has H d)
  rw [hd] at C
  clear H hd
  go_enter Try.func19, Try.ntmps19
  go_wp2_with fail
  refine C.out.mono ?_
  rintro e w1 ⟨rfl, rfl⟩
  go_wp2
  go_ret2
  exact ⟨rfl, rfl⟩

theorem po_isOpen_no (H : PoM w pb gb bb c qb lo hi n cap T D Mx G L f Q) (d : Int) (hd : hasD n d = false) : Calls Try.prog 34 #[.pointer (some ⟨pb, 0, none⟩), .int .i64 d] w fun e w' => e = .returned (.bool false) ∧ w = w' := by
  have C := Lib.hid (po_has H d)
  rw [hd] at C
  clear H hd
  go_enter Try.func34, Try.ntmps34
  go_wp2_with fail
  refine C.out.mono ?_
  rintro e w1 ⟨rfl, rfl⟩
  go_wp2
  go_ret
  exact ⟨rfl, rfl⟩

theorem po_ack (H : PoM w pb gb bb c qb lo hi n cap T D Mx G L f Q) (d : Nat) (m : Int) (hd : d < n) : Calls Try.prog 21 #[.pointer (some ⟨pb, 0, none⟩), .int .i64 d, .int .i64 m] w fun e w' => e = .returned (.int .i64 (gAck (G d) m).2) ∧ PoM w' pb gb bb c qb lo hi n cap T D Mx (updG G d (gAck (G d) m).1) L f Q ∧ OnlyB (ownP pb gb bb c lo hi L) w w' := by
  have CG := Lib.hid (go_ack (H.gs.gt d hd) m)
  have C := Lib.hid (po_has H d)
  rw [show hasD n d = true by unfold hasD; simp [hd]] at C
  obtain ⟨c0, c1, c2, c3, fz⟩ := p_cells H
  have HH := Lib.hid H
  have hn := H.nb.1
  have MD := Lib.hid (H.gs.md d hd)
  clear H c1 c2 c3 fz
  go_enter Try.func21, Try.ntmps21
  go_wp2_with fail
  refine C.out.mono ?_
  rintro e w1 ⟨rfl, rfl⟩
  go_wp2_with fail
  refine CG.out.mono ?_
  rintro e w1 ⟨rfl, h1, k1⟩
  have R := Lib.hid (And.intro h1 k1)
  clear h1 k1
  go_wp2
  go_ret
  exact ⟨rfl, HH.out.turn R.out.1 R.out.2 (mdOk_ack MD.out), ownB_g R.out.2.k⟩

theorem po_tell (H : PoM w pb gb bb c qb lo hi n cap T D Mx G L f Q) (d : Nat) (hd : d < n) : Calls Try.prog 19 #[.pointer (some ⟨pb, 0, none⟩), .int .i64 d] w fun e w' => e = .returned (.tuple #[.int .u64 (tells (G d)).2.1, .int .i64 (tells (G d)).2.2]) ∧ PoM w' pb gb bb c qb lo hi n cap T D Mx (updG G d (tells (G d)).1) L f Q ∧ OnlyB (ownP pb gb bb c lo hi L) w w' := by
  have CG := Lib.hid (go_tell (H.gs.gt d hd) (H.gs.md d hd))
  have C := Lib.hid (po_has H d)
  rw [show hasD n d = true by unfold hasD; simp [hd]] at C
  obtain ⟨c0, c1, c2, c3, fz⟩ := p_cells H
  have HH := Lib.hid H
  have hn := H.nb.1
  have MD := Lib.hid (H.gs.md d hd)
  clear H c1 c2 c3 fz
  go_enter Try.func19, Try.ntmps19
  go_wp2_with fail
  refine C.out.mono ?_
  rintro e w1 ⟨rfl, rfl⟩
  go_wp2_with fail
  refine CG.out.mono ?_
  rintro e w1 ⟨rfl, h1, k1⟩
  have R := Lib.hid (And.intro h1 k1)
  clear h1 k1
  go_wp2
  go_ret2
  exact ⟨rfl, HH.out.turn R.out.1 R.out.2 (mdOk_tell MD.out), ownB_g R.out.2.k⟩

theorem po_isOpen (H : PoM w pb gb bb c qb lo hi n cap T D Mx G L f Q) (d : Nat) (hd : d < n) : Calls Try.prog 34 #[.pointer (some ⟨pb, 0, none⟩), .int .i64 d] w fun e w' => e = .returned (.bool (G d).op) ∧ w.grownBy w' none := by
  have CG := Lib.hid (go_look (H.gs.gt d hd))
  have C := Lib.hid (po_has H d)
  rw [show hasD n d = true by unfold hasD; simp [hd]] at C
  obtain ⟨c0, c1, c2, c3, fz⟩ := p_cells H
  have HH := Lib.hid H
  have hn := H.nb.1
  have hf0 : ∀ (o : Bool) (r l h x m t : Int) (w : World), (Instr.field 38 (.agg #[.bool o, .int .i64 r, .int .i64 l, .int .u64 h, .int .i64 x, .int .i64 m, .int .i64 t]) 0).run Try.prog w = .ok (.bool o) w := fun _ _ _ _ _ _ _ _ => by kernel_rfl
  clear H c1 c2 c3 fz
  go_enter Try.func34, Try.ntmps34
  go_wp2_with fail
  refine C.out.mono ?_
  rintro e w1 ⟨rfl, rfl⟩
  go_wp2_with fail
  refine CG.out.mono ?_
  rintro e w1 ⟨rfl, k1⟩
  unfold gval
  go_wp2
  go_ret
  exact ⟨rfl, k1⟩

theorem po_watch_f (H : PoM w pb gb bb c qb lo hi n cap T D Mx G L f Q) (d : Nat) (h x m : Int) (hd : d < n) (hf : (gWatch (G d) h x m).2 = false) : Calls Try.prog 16 #[.pointer (some ⟨pb, 0, none⟩), .int .i64 d, .int .u64 h, .int .i64 x, .int .i64 m] w fun e w' => e = .returned (.bool false) ∧ PoM w' pb gb bb c qb lo hi n cap T D Mx (updG G d (gWatch (G d) h x m).1) L f Q ∧ OnlyB (ownP pb gb bb c lo hi L) w w' := by
  have CG := Lib.hid (go_watch (H.gs.gt d hd) h x m)
  have C := Lib.hid (po_has H d)
  rw [show hasD n d = true by unfold hasD; simp [hd]] at C
  obtain ⟨c0, c1, c2, c3, fz⟩ := p_cells H
  have HH := Lib.hid H
  have hn := H.nb.1
  have MD := Lib.hid (H.gs.md d hd)
  rw [hf] at CG
  clear H c1 c3 fz hf
  go_enter Try.func16, Try.ntmps16
  go_wp2_with fail
  refine C.out.mono ?_
  rintro e w1 ⟨rfl, rfl⟩
  go_wp2_with fail
  refine CG.out.mono ?_
  rintro e w1 ⟨rfl, h1, k1⟩
  have R := Lib.hid (And.intro h1 k1)
  clear h1 k1 c2
  go_wp2
  go_ret
  exact ⟨rfl, HH.out.turn R.out.1 R.out.2 (mdOk_watch MD.out), ownB_g R.out.2.k⟩

theorem po_watch_t (H : PoM w pb gb bb c qb lo hi n cap T D Mx G L f Q) (d : Nat) (h x m : Int) (hd : d < n) (hf : (gWatch (G d) h x m).2 = true) : Calls Try.prog 16 #[.pointer (some ⟨pb, 0, none⟩), .int .i64 d, .int .u64 h, .int .i64 x, .int .i64 m] w fun e w' => e = .returned (.bool true) ∧ PoM w' pb gb bb c qb lo hi n cap T D Mx (updG G d (gWatch (G d) h x m).1) L f (dropD T D Q d) ∧ OnlyB (ownP pb gb bb c lo hi L) w w' := by
  have CG := Lib.hid (go_watch (H.gs.gt d hd) h x m)
  have C := Lib.hid (po_has H d)
  rw [show hasD n d = true by unfold hasD; simp [hd]] at C
  obtain ⟨c0, c1, c2, c3, fz⟩ := p_cells H
  have HH := Lib.hid H
  have hn := H.nb.1
  have MD := Lib.hid (H.gs.md d hd)
  rw [hf] at CG
  clear H c1 c3 fz hf
  go_enter Try.func16, Try.ntmps16
  go_wp2_with fail
  refine C.out.mono ?_
  rintro e w1 ⟨rfl, rfl⟩
  go_wp2_with fail
  refine CG.out.mono ?_
  rintro e w1 ⟨rfl, h1, k1⟩
  have H1 := Lib.hid (HH.out.turn h1 k1 (mdOk_watch MD.out))
  have K1 : Hid (OnlyB (ownP pb gb bb c lo hi L) w w1.drew) := Lib.hid ((ownB_g k1.k).trans (OnlyB.of_none (gd (World.grownBy.refl _ _))))
  have H2 := Lib.hid H1.out.drew
  have t0 := (p_cells H2.out).2.2.1
  have CT := Lib.hid (po_thing (w := w1.drew) d)
  clear h1 k1 c0 c2 H1 HH CG C
  go_wp2_with fail
  go_region_held3 (fun w' => w'.cell? ⟨pb, 2, none⟩ = some (.pointer (some ⟨qb, 0, none⟩))) (first | exact t0 | exact t1 | exact t2)
    (first
      | (go_at_call 31; (with_reducible refine CT.out.mono ?_); rintro e w2 ⟨rfl, k2⟩; have H3 := Lib.hid (H2.out.kept k2); have t1 := (p_cells H3.out).2.2.1; have CD := Lib.hid (qu_dropD H3.out.qu d))
      | (go_at_call 30; (with_reducible refine CD.out.mono ?_); rintro e w3 ⟨b3, rfl, k3, h3⟩; have H4 := Lib.hid (H3.out.queue k3 h3); have t2 := (p_cells H4.out).2.2.1))
  have K2 : Hid (OnlyB (ownP pb gb bb c lo hi L) w w3) := Lib.hid ((K1.out.trans (OnlyB.of_none k2)).trans (ownB_q k3))
  clear k2 k3 h3 CT CD t0 t1 t2 K1
  go_wp2
  go_ret
  exact ⟨rfl, H4.out, K2.out⟩

theorem po_unwatch_f (H : PoM w pb gb bb c qb lo hi n cap T D Mx G L f Q) (d : Nat) (hd : d < n) (hf : (gUnwatch (G d)).2 = false) : Calls Try.prog 20 #[.pointer (some ⟨pb, 0, none⟩), .int .i64 d] w fun e w' => e = .returned (.bool false) ∧ PoM w' pb gb bb c qb lo hi n cap T D Mx (updG G d (gUnwatch (G d)).1) L f Q ∧ OnlyB (ownP pb gb bb c lo hi L) w w' := by
  have CG := Lib.hid (go_unwatch (H.gs.gt d hd))
  have C := Lib.hid (po_has H d)
  rw [show hasD n d = true by unfold hasD; simp [hd]] at C
  obtain ⟨c0, c1, c2, c3, fz⟩ := p_cells H
  have HH := Lib.hid H
  have hn := H.nb.1
  have MD := Lib.hid (H.gs.md d hd)
  rw [hf] at CG
  clear H c1 c3 fz hf
  go_enter Try.func20, Try.ntmps20
  go_wp2_with fail
  refine C.out.mono ?_
  rintro e w1 ⟨rfl, rfl⟩
  go_wp2_with fail
  refine CG.out.mono ?_
  rintro e w1 ⟨rfl, h1, k1⟩
  have R := Lib.hid (And.intro h1 k1)
  clear h1 k1 c2
  go_wp2
  go_ret
  exact ⟨rfl, HH.out.turn R.out.1 R.out.2 (mdOk_unwatch), ownB_g R.out.2.k⟩

theorem po_unwatch_t (H : PoM w pb gb bb c qb lo hi n cap T D Mx G L f Q) (d : Nat) (hd : d < n) (hf : (gUnwatch (G d)).2 = true) : Calls Try.prog 20 #[.pointer (some ⟨pb, 0, none⟩), .int .i64 d] w fun e w' => e = .returned (.bool true) ∧ PoM w' pb gb bb c qb lo hi n cap T D Mx (updG G d (gUnwatch (G d)).1) L f (dropD T D Q d) ∧ OnlyB (ownP pb gb bb c lo hi L) w w' := by
  have CG := Lib.hid (go_unwatch (H.gs.gt d hd))
  have C := Lib.hid (po_has H d)
  rw [show hasD n d = true by unfold hasD; simp [hd]] at C
  obtain ⟨c0, c1, c2, c3, fz⟩ := p_cells H
  have HH := Lib.hid H
  have hn := H.nb.1
  have MD := Lib.hid (H.gs.md d hd)
  rw [hf] at CG
  clear H c1 c3 fz hf
  go_enter Try.func20, Try.ntmps20
  go_wp2_with fail
  refine C.out.mono ?_
  rintro e w1 ⟨rfl, rfl⟩
  go_wp2_with fail
  refine CG.out.mono ?_
  rintro e w1 ⟨rfl, h1, k1⟩
  have H1 := Lib.hid (HH.out.turn h1 k1 (mdOk_unwatch))
  have K1 : Hid (OnlyB (ownP pb gb bb c lo hi L) w w1.drew) := Lib.hid ((ownB_g k1.k).trans (OnlyB.of_none (gd (World.grownBy.refl _ _))))
  have H2 := Lib.hid H1.out.drew
  have t0 := (p_cells H2.out).2.2.1
  have CT := Lib.hid (po_thing (w := w1.drew) d)
  clear h1 k1 c0 c2 H1 HH CG C
  go_wp2_with fail
  go_region_held3 (fun w' => w'.cell? ⟨pb, 2, none⟩ = some (.pointer (some ⟨qb, 0, none⟩))) (first | exact t0 | exact t1 | exact t2)
    (first
      | (go_at_call 31; (with_reducible refine CT.out.mono ?_); rintro e w2 ⟨rfl, k2⟩; have H3 := Lib.hid (H2.out.kept k2); have t1 := (p_cells H3.out).2.2.1; have CD := Lib.hid (qu_dropD H3.out.qu d))
      | (go_at_call 30; (with_reducible refine CD.out.mono ?_); rintro e w3 ⟨b3, rfl, k3, h3⟩; have H4 := Lib.hid (H3.out.queue k3 h3); have t2 := (p_cells H4.out).2.2.1))
  have K2 : Hid (OnlyB (ownP pb gb bb c lo hi L) w w3) := Lib.hid ((K1.out.trans (OnlyB.of_none k2)).trans (ownB_q k3))
  clear k2 k3 h3 CT CD t0 t1 t2 K1
  go_wp2
  go_ret
  exact ⟨rfl, H4.out, K2.out⟩
end
end Go.Proofs.Ytpnipmjjhiaieaa
