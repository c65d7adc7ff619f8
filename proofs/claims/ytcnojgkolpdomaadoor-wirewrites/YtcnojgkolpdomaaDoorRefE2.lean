/-
  nightjarref15.Bytes and All, over this seat's translation.
-/
import Derived.Test.YtcnojgkolpdomaaDoorWire6
import Derived.Test.YtcnojgkolpdomaaDoorRefC2
import Derived.Test.YtcnojgkolpdomaaDoorWireN
import Derived.Deep.RegionHeld3
namespace Go.Proofs.YtcnojgkolpdomaaDoor
open Go.RowKit Go.Lib
set_option maxRecDepth 100000
set_option linter.unusedVariables false

theorem step_append_run {P : Program} {ops : Array Oper} {o : Oper} {a : Act} {w : World} {K : Act → World → Prop} {Q : Exit → Act → World → Prop} {E : Prop}
    (hg : o.guard = none) (s x : Operand) (t : TypeId) (hop : o.op = Op.call { callee := Callee.builtin Builtin.append, args := #[s, x], argTypes := #[t, t] })
    (v xv v' : Value) (w' : World) (hs : a.eval s = v) (hx : a.eval x = xv) (hrun : (Builtin.append_ #[t, t] o.type #[v, xv]).run P w = .ok v' w') (hK : K (a.put o.dst v') w') :
    if Region.wanted o (yielded ops a.tmps) = true then Oper.wp P o a w K Q else E := by
  have hw : Region.wanted o (yielded ops a.tmps) = true := by simp [Region.wanted, hg]
  rw [if_pos hw]
  unfold Oper.wp execOp
  simp only [hop, resolve, invoke, builtin, Sem.run_bind, Sem.run_pure, Result.andThen_ok, List.map_toArray, List.map_cons, List.map_nil, hs, hx, hrun]
  exact hK

set_option maxHeartbeats 8000000 in
theorem rbytesE {w : World} (e : En) (hs : smC e.call) (ho : okE e = true) :
    Calls Tryd.prog 49 #[e.val] w fun r w' => ∃ v, r = .returned v ∧ BRow w' w.heap.size v (ew e) ∧ w.grownBy w' none := by
  obtain ⟨i0, hi0, hz0, hz1, hz2⟩ := byte_info
  have I0 := Lib.hid hi0
  have I1 := Lib.hid hz0
  have I2 := Lib.hid hz1
  have I3 := Lib.hid hz2
  clear hi0 hz0 hz1 hz2
  obtain ⟨k, who, n, ⟨op, a, b, c⟩, d, m⟩ := e
  rcases okE_cases ho with ⟨hk, h1, h2, h3, h4, h5, h6⟩ | ⟨hk, h1, h2, h3, h4, h5, h6⟩ | ⟨hk, h1, h2, h3, h4, h5, h6, h7, h8⟩
  · simp only at hk h1 h2
    subst hk
    obtain ⟨j, rfl⟩ : ∃ j : Nat, n = (j : Int) := ⟨n.toNat, by omega⟩
    have e1 : ew ⟨0, who, (j : Int), ⟨op, a, b, c⟩, d, m⟩ = [3, 0, j, 0] := by simp [ew, eb]; omega
    rw [e1]
    unfold En.val
    simp only
    have hw1 : IntKind.u8.wrap (j : Int) = (j : Int) := by rw [wrap8]; omega
    clear ho h3 h4 h5 h6 e1 hs
    go_enter Tryd.func49, Tryd.ntmps49
    go_wp2
    go_ret
    refine ⟨_, rfl, ?_, (World.grownBy_alloc w _ none).trans (World.grownBy_alloc _ _ none)⟩
    exact lit_at _ _ [3, 0, j, 0] _ 4 _ rfl rfl (by simp) (by simp) (by simp)
  · simp only at hk h1 h2
    subst hk
    obtain ⟨j, rfl⟩ : ∃ j : Nat, who = (j : Int) := ⟨who.toNat, by omega⟩
    have hbl := cb_len ⟨op, a, b, c⟩
    have e1 : ew ⟨1, (j : Int), n, ⟨op, a, b, c⟩, d, m⟩ = [27, 1, j] ++ cb ⟨op, a, b, c⟩ := by simp [ew, eb, hbl]
    rw [e1]
    have hw1 : IntKind.u8.wrap (j : Int) = (j : Int) := by rw [wrap8]; omega
    have hol : okC ⟨op, a, b, c⟩ = true := h3
    have hbB := cb_isB hol
    have CB := fun wz => rbytes wz ⟨op, a, b, c⟩ hs hol
    unfold Cl.val at CB
    simp only at CB
    generalize cb ⟨op, a, b, c⟩ = Q at *
    have CB := Lib.hid CB
    unfold En.val
    simp only
    clear ho h3 h4 h5 h6 e1 hs hol
    go_enter Tryd.func49, Tryd.ntmps49
    go_wp2_with fail
    generalize hw0 : w.alloc (.cells #[.int .i64 1, .int .i64 (j : Int), .int .i64 n, .int .i64 op, .int .u64 (a : Nat), .int .u64 (b : Nat), .int .u64 (c : Nat), .int .i64 d, .int .i64 m] 55) = w0 at *
    have k0 : w.grownBy w0 none := by rw [← hw0]; exact World.grownBy_alloc w _ none
    have hx : ∀ i, i < 9 → w0.cell? ⟨w.heap.size, i, none⟩ = ([.int .i64 1, .int .i64 (j : Int), .int .i64 n, .int .i64 op, .int .u64 (a : Nat), .int .u64 (b : Nat), .int .u64 (c : Nat), .int .i64 d, .int .i64 m] : List Value)[i]? := fun i hi => by
      rw [← hw0, World.cell?_alloc_new]
      simp
    have hsX : w.heap.size < w0.heap.size := by rw [← hw0]; simp
    clear hw0
    have kd := k0.trans (⟨rfl, rfl, rfl, Nat.le_refl _, fun _ _ _ => rfl⟩ : w0.grownBy w0.drew none)
    have x1 : w0.drew.cell? ⟨w.heap.size, 1, none⟩ = some (.int .i64 (j : Int)) := hx 1 (by decide)
    have x3 : w0.drew.cell? ⟨w.heap.size, 3, none⟩ = some (.int .i64 op) := hx 3 (by decide)
    have x4 : w0.drew.cell? ⟨w.heap.size, 4, none⟩ = some (.int .u64 (a : Nat)) := hx 4 (by decide)
    have x5 : w0.drew.cell? ⟨w.heap.size, 5, none⟩ = some (.int .u64 (b : Nat)) := hx 5 (by decide)
    have x6 : w0.drew.cell? ⟨w.heap.size, 6, none⟩ = some (.int .u64 (c : Nat)) := hx 6 (by decide)
    have hsd : w.heap.size < w0.drew.heap.size := hsX
    have G0 := Lib.hid kd
    obtain ⟨X, hX⟩ : ∃ X, X = w.heap.size := ⟨_, rfl⟩
    have HX := Lib.hid hX
    rw [← hX] at hsd x1 x3 x4 x5 x6 ⊢
    clear hX hx k0 kd hsX
    refine wp_region_held_drew (S := fun w' => w'.cell? ⟨X, 1, none⟩ = some (.int .i64 (j : Int)) ∧ w'.cell? ⟨X, 3, none⟩ = some (.int .i64 op) ∧ w'.cell? ⟨X, 4, none⟩ = some (.int .u64 (a : Nat)) ∧ w'.cell? ⟨X, 5, none⟩ = some (.int .u64 (b : Nat)) ∧ w'.cell? ⟨X, 6, none⟩ = some (.int .u64 (c : Nat))) (by kernel_rfl) ⟨x1, x3, x4, x5, x6⟩ (fun hHeld => ?_)
    generalize w0.drew = wd at *
    refine wpAnyH_take (i := 0) (oi := ⟨_, _, _, _, _, _⟩) (v := ?_) rfl (by kernel_rfl) (by kernel_rfl) (by kernel_rfl) (fun _ _ _ h => h) (Or.inl ⟨by rfl, ?_⟩) (by assumption) ?_
    rotate_left
    · intro wz hSw
      try dsimp only at hSw
      go_simp
      try with_reducible rfl
    simp only [Act.put, List.setIfInBounds_toArray, List.set_cons_zero, List.set_cons_succ]
    refine wpAnyH_take (i := 1) (oi := ⟨_, _, _, _, _, _⟩) (v := ?_) rfl (by kernel_rfl) (by kernel_rfl) (by kernel_rfl) (fun _ _ _ h => h) (Or.inl ⟨by rfl, ?_⟩) (by assumption) ?_
    rotate_left
    · intro wz hSw
      try dsimp only at hSw
      go_simp
      try with_reducible rfl
    simp only [Act.put, List.setIfInBounds_toArray, List.set_cons_zero, List.set_cons_succ]
    refine wpAnyH_take (i := 2) (oi := ⟨_, _, _, _, _, _⟩) (v := ?_) rfl (by kernel_rfl) (by kernel_rfl) (by kernel_rfl) (fun _ _ _ h => h) (Or.inl ⟨by rfl, ?_⟩) (by assumption) ?_
    rotate_left
    · intro wz hSw
      try dsimp only at hSw
      go_simp
      try with_reducible rfl
    simp only [Act.put, List.setIfInBounds_toArray, List.set_cons_zero, List.set_cons_succ]
    refine wpAnyH_take (i := 4) (oi := ⟨_, _, _, _, _, _⟩) (v := ?_) rfl (by kernel_rfl) (by kernel_rfl) (by kernel_rfl) (fun _ _ _ h => h) (Or.inl ⟨by rfl, ?_⟩) (by assumption) ?_
    rotate_left
    · intro wz hSw
      try dsimp only at hSw
      go_simp
      try with_reducible rfl
    simp only [Act.put, List.setIfInBounds_toArray, List.set_cons_zero, List.set_cons_succ]
    refine wpAnyH_take (i := 5) (oi := ⟨_, _, _, _, _, _⟩) (v := ?_) rfl (by kernel_rfl) (by kernel_rfl) (by kernel_rfl) (fun _ _ _ h => h) (Or.inl ⟨by rfl, ?_⟩) (by assumption) ?_
    rotate_left
    · intro wz hSw
      try dsimp only at hSw
      go_simp
      try with_reducible rfl
    simp only [Act.put, List.setIfInBounds_toArray, List.set_cons_zero, List.set_cons_succ]
    refine wpAnyH_ready (rs := [3, 6]) (by kernel_rfl) (by simp) ?_
    refine AllReadyH.cons (o := ⟨_, _, _, _, _, _⟩) rfl (fun K hK => ?_) (AllReadyH.cons (o := ⟨_, _, _, _, _, _⟩) rfl (fun K hK => ?_) AllReadyH.nil)
    · skip
      go_simp
      have kb := World.grownBy_alloc wd (.cells #[.int .u8 27, .int .u8 1, .int .u8 (j : Int)] 5) none
      have HRB := Lib.hid (lit_at wd wd.heap.size [27, 1, j] #[.int .u8 27, .int .u8 1, .int .u8 (j : Int)] 3 wd.heap.size rfl rfl (Nat.le_refl _) (by simp) rfl)
      have hPB : X < wd.heap.size := hsd
      replace x1 := (kb.cell_far ⟨X, 1, none⟩ hsd (by simp)).trans x1
      replace x3 := (kb.cell_far ⟨X, 3, none⟩ hsd (by simp)).trans x3
      replace x4 := (kb.cell_far ⟨X, 4, none⟩ hsd (by simp)).trans x4
      replace x5 := (kb.cell_far ⟨X, 5, none⟩ hsd (by simp)).trans x5
      replace x6 := (kb.cell_far ⟨X, 6, none⟩ hsd (by simp)).trans x6
      replace hsd := Nat.lt_of_lt_of_le hsd kb.size
      have G1 := Lib.hid (G0.out.trans kb)
      generalize hnw : wd.alloc (.cells #[.int .u8 27, .int .u8 1, .int .u8 (j : Int)] 5) = wb1 at *
      clear hnw kb
      refine hK.out _ _ ⟨x1, x3, x4, x5, x6⟩ (fun hHeld => ?_)
      clear hK K
      try simp only [Act.put, List.setIfInBounds_toArray, List.set_cons_zero, List.set_cons_succ]
      refine wpAnyH_ready (rs := [6]) (by kernel_rfl) (by simp) ?_
      refine AllReadyH.cons (o := ⟨_, _, _, _, _, _⟩) rfl (fun K hK => ?_) AllReadyH.nil
      go_simp
      refine (CB.out _).mono ?_
      rintro r wc1 ⟨v, rfl, q1, g1⟩
      replace x1 := (g1.cell_far ⟨X, 1, none⟩ hsd (by simp)).trans x1
      replace x3 := (g1.cell_far ⟨X, 3, none⟩ hsd (by simp)).trans x3
      replace x4 := (g1.cell_far ⟨X, 4, none⟩ hsd (by simp)).trans x4
      replace x5 := (g1.cell_far ⟨X, 5, none⟩ hsd (by simp)).trans x5
      replace x6 := (g1.cell_far ⟨X, 6, none⟩ hsd (by simp)).trans x6
      replace hsd := Nat.lt_of_lt_of_le hsd g1.size
      have G2 := Lib.hid (G1.out.trans g1)
      replace HRB := Lib.hid (HRB.out.grown g1)
      have HQ := Lib.hid q1
      clear g1 q1
      refine hK.out _ _ ⟨x1, x3, x4, x5, x6⟩ (fun hHeld => ?_)
      clear hK K
      try simp only [Act.put, List.setIfInBounds_toArray, List.set_cons_zero, List.set_cons_succ]
      obtain ⟨P0, hP0⟩ : ∃ P0 : List Nat, P0 = [27, 1, j] := ⟨_, rfl⟩
      have hl0 : P0.length = 3 := by rw [hP0]; rfl
      rw [← hP0] at HRB
      have HP0 := Lib.hid hP0
      obtain ⟨vb, hvb⟩ : ∃ vb, vb = Value.slice (some ⟨wd.heap.size, 0, none⟩) 3 3 := ⟨_, rfl⟩
      rw [← hvb] at HRB
      have hbase : wd.heap.size ≤ wc1.heap.size := Nat.le_of_lt (HRB.out.own wd.heap.size (by rw [hvb]; rfl)).2
      obtain ⟨v', w', hrun, hown, hg, _, _⟩ := run_append_src Tryd.prog wc1 wd.heap.size 38 38 5 i0 (.int .u8 0) 1 1 Tryd.underlying38 I0.out I1.out I2.out I3.out rfl (by decide) vb P0.length (bys P0) HRB.out v Q.length (bys Q) (HQ.out.reads hbB).srcA (by unfold maxLen; omega) (by omega) hbase
      have HOW := Lib.hid (src_put hown)
      have hneX : some X ≠ vb.ownBlock := by rw [hvb]; simp [Value.ownBlock]; omega
      have HGW := Lib.hid (grow_own G2.out HRB.out (by rw [← HX.out]; omega) hg)
      rw [hvb] at hrun
      replace x1 := (hg.cell_far ⟨X, 1, none⟩ hsd hneX).trans x1
      replace x3 := (hg.cell_far ⟨X, 3, none⟩ hsd hneX).trans x3
      replace x4 := (hg.cell_far ⟨X, 4, none⟩ hsd hneX).trans x4
      replace x5 := (hg.cell_far ⟨X, 5, none⟩ hsd hneX).trans x5
      replace x6 := (hg.cell_far ⟨X, 6, none⟩ hsd hneX).trans x6
      clear hg hown hneX hbase
      refine wpAnyH_ready (rs := [7]) (by kernel_rfl) (by simp) ?_
      refine AllReadyH.cons (o := ⟨_, _, _, _, _, _⟩) rfl (fun K hK => ?_) AllReadyH.nil
      refine step_append_run rfl _ _ _ rfl _ _ v' w' rfl rfl hrun ?_
      refine hK.out _ _ ⟨x1, x3, x4, x5, x6⟩ (fun hHeld => ?_)
      clear hK K
      try simp only [Act.put, List.setIfInBounds_toArray, List.set_cons_zero, List.set_cons_succ]
      refine wpAnyH_take (i := 8) (oi := ⟨_, _, _, _, _, _⟩) (v := ?_) rfl (by kernel_rfl) (by kernel_rfl) (by kernel_rfl) (fun _ _ _ h => h) (Or.inl ⟨by rfl, ?_⟩) (by assumption) ?_
      rotate_left
      · intro wz hSw
        try dsimp only at hSw
        go_simp
        try with_reducible rfl
      simp only [Act.put, List.setIfInBounds_toArray, List.set_cons_zero, List.set_cons_succ]
      refine wpAnyH_done (by kernel_rfl) ?_ _
      clear hHeld hrun
      go_wp2
      go_ret
      rw [HP0.out] at HOW
      exact ⟨_, rfl, HOW.out.mono (by rw [← HX.out]; omega), HGW.out⟩
    · skip
      go_simp
      refine (CB.out _).mono ?_
      rintro r wc1 ⟨v, rfl, q1, g1⟩
      replace x1 := (g1.cell_far ⟨X, 1, none⟩ hsd (by simp)).trans x1
      replace x3 := (g1.cell_far ⟨X, 3, none⟩ hsd (by simp)).trans x3
      replace x4 := (g1.cell_far ⟨X, 4, none⟩ hsd (by simp)).trans x4
      replace x5 := (g1.cell_far ⟨X, 5, none⟩ hsd (by simp)).trans x5
      replace x6 := (g1.cell_far ⟨X, 6, none⟩ hsd (by simp)).trans x6
      replace hsd := Nat.lt_of_lt_of_le hsd g1.size
      have G1 := Lib.hid (G0.out.trans g1)
      have HQ0 := Lib.hid q1
      clear g1 q1
      refine hK.out _ _ ⟨x1, x3, x4, x5, x6⟩ (fun hHeld => ?_)
      clear hK K
      try simp only [Act.put, List.setIfInBounds_toArray, List.set_cons_zero, List.set_cons_succ]
      refine wpAnyH_ready (rs := [3]) (by kernel_rfl) (by simp) ?_
      refine AllReadyH.cons (o := ⟨_, _, _, _, _, _⟩) rfl (fun K hK => ?_) AllReadyH.nil
      have HQ := Lib.hid (HQ0.out.grown (World.grownBy_alloc wc1 (.cells #[.int .u8 27, .int .u8 1, .int .u8 (j : Int)] 5) none))
      go_simp
      have kb := World.grownBy_alloc wc1 (.cells #[.int .u8 27, .int .u8 1, .int .u8 (j : Int)] 5) none
      have HRB := Lib.hid (lit_at wc1 wc1.heap.size [27, 1, j] #[.int .u8 27, .int .u8 1, .int .u8 (j : Int)] 3 wc1.heap.size rfl rfl (Nat.le_refl _) (by simp) rfl)
      have hPB : X < wc1.heap.size := hsd
      replace x1 := (kb.cell_far ⟨X, 1, none⟩ hsd (by simp)).trans x1
      replace x3 := (kb.cell_far ⟨X, 3, none⟩ hsd (by simp)).trans x3
      replace x4 := (kb.cell_far ⟨X, 4, none⟩ hsd (by simp)).trans x4
      replace x5 := (kb.cell_far ⟨X, 5, none⟩ hsd (by simp)).trans x5
      replace x6 := (kb.cell_far ⟨X, 6, none⟩ hsd (by simp)).trans x6
      replace hsd := Nat.lt_of_lt_of_le hsd kb.size
      have G2 := Lib.hid (G1.out.trans kb)
      generalize hnw : wc1.alloc (.cells #[.int .u8 27, .int .u8 1, .int .u8 (j : Int)] 5) = wb1 at *
      clear hnw kb
      refine hK.out _ _ ⟨x1, x3, x4, x5, x6⟩ (fun hHeld => ?_)
      clear hK K
      try simp only [Act.put, List.setIfInBounds_toArray, List.set_cons_zero, List.set_cons_succ]
      obtain ⟨P0, hP0⟩ : ∃ P0 : List Nat, P0 = [27, 1, j] := ⟨_, rfl⟩
      have hl0 : P0.length = 3 := by rw [hP0]; rfl
      rw [← hP0] at HRB
      have HP0 := Lib.hid hP0
      obtain ⟨vb, hvb⟩ : ∃ vb, vb = Value.slice (some ⟨wc1.heap.size, 0, none⟩) 3 3 := ⟨_, rfl⟩
      rw [← hvb] at HRB
      have hbase : wc1.heap.size ≤ wb1.heap.size := Nat.le_of_lt (HRB.out.own wc1.heap.size (by rw [hvb]; rfl)).2
      obtain ⟨v', w', hrun, hown, hg, _, _⟩ := run_append_src Tryd.prog wb1 wc1.heap.size 38 38 5 i0 (.int .u8 0) 1 1 Tryd.underlying38 I0.out I1.out I2.out I3.out rfl (by decide) vb P0.length (bys P0) HRB.out v Q.length (bys Q) (HQ.out.reads hbB).srcA (by unfold maxLen; omega) (by omega) hbase
      have HOW := Lib.hid (src_put hown)
      have hneX : some X ≠ vb.ownBlock := by rw [hvb]; simp [Value.ownBlock]; omega
      have HGW := Lib.hid (grow_own G2.out HRB.out (by rw [← HX.out]; omega) hg)
      rw [hvb] at hrun
      replace x1 := (hg.cell_far ⟨X, 1, none⟩ hsd hneX).trans x1
      replace x3 := (hg.cell_far ⟨X, 3, none⟩ hsd hneX).trans x3
      replace x4 := (hg.cell_far ⟨X, 4, none⟩ hsd hneX).trans x4
      replace x5 := (hg.cell_far ⟨X, 5, none⟩ hsd hneX).trans x5
      replace x6 := (hg.cell_far ⟨X, 6, none⟩ hsd hneX).trans x6
      clear hg hown hneX hbase
      refine wpAnyH_ready (rs := [7]) (by kernel_rfl) (by simp) ?_
      refine AllReadyH.cons (o := ⟨_, _, _, _, _, _⟩) rfl (fun K hK => ?_) AllReadyH.nil
      refine step_append_run rfl _ _ _ rfl _ _ v' w' rfl rfl hrun ?_
      refine hK.out _ _ ⟨x1, x3, x4, x5, x6⟩ (fun hHeld => ?_)
      clear hK K
      try simp only [Act.put, List.setIfInBounds_toArray, List.set_cons_zero, List.set_cons_succ]
      refine wpAnyH_take (i := 8) (oi := ⟨_, _, _, _, _, _⟩) (v := ?_) rfl (by kernel_rfl) (by kernel_rfl) (by kernel_rfl) (fun _ _ _ h => h) (Or.inl ⟨by rfl, ?_⟩) (by assumption) ?_
      rotate_left
      · intro wz hSw
        try dsimp only at hSw
        go_simp
        try with_reducible rfl
      simp only [Act.put, List.setIfInBounds_toArray, List.set_cons_zero, List.set_cons_succ]
      refine wpAnyH_done (by kernel_rfl) ?_ _
      clear hHeld hrun
      go_wp2
      go_ret
      rw [HP0.out] at HOW
      exact ⟨_, rfl, HOW.out.mono (by rw [← HX.out]; omega), HGW.out⟩
  · simp only at hk h1 h2 h3 h4 h5 h6
    subst hk
    obtain ⟨j, rfl⟩ : ∃ j : Nat, who = (j : Int) := ⟨who.toNat, by omega⟩
    obtain ⟨l, rfl⟩ : ∃ l : Nat, d = (l : Int) := ⟨d.toNat, by omega⟩
    obtain ⟨i, rfl⟩ : ∃ i : Nat, m = (i : Int) := ⟨m.toNat, by omega⟩
    have e1 : ew ⟨2, (j : Int), n, ⟨op, a, b, c⟩, (l : Int), (i : Int)⟩ = [4, 2, j, l, i] := by simp [ew, eb]
    rw [e1]
    unfold En.val
    simp only
    have hw1 : IntKind.u8.wrap (j : Int) = (j : Int) := by rw [wrap8]; omega
    have hw2 : IntKind.u8.wrap (l : Int) = (l : Int) := by rw [wrap8]; omega
    have hw3 : IntKind.u8.wrap (i : Int) = (i : Int) := by rw [wrap8]; omega
    clear ho h7 h8 e1 hs
    go_enter Tryd.func49, Tryd.ntmps49
    go_wp2
    go_ret
    refine ⟨_, rfl, ?_, (World.grownBy_alloc w _ none).trans (World.grownBy_alloc _ _ none)⟩
    exact lit_at _ _ [4, 2, j, l, i] _ 5 _ rfl rfl (by simp) (by simp) (by simp)

set_option maxHeartbeats 8000000 in
theorem rallE {w : World} {v : Value} {L : List En} (H : ReadsE w v L) (hok : L.all okE = true) (hL : L.length ≤ 100) :
    Calls Tryd.prog 36 #[v] w fun r w' => ∃ v', r = .returned v' ∧ BRow w' w.heap.size v' (wrB L) ∧ w.grownBy w' none := by
  obtain ⟨a0, cap0, rfl, h1, h2, h3, h4⟩ := H
  have HC : Hid (∀ (wz : World) (j : Nat) (hj : j < L.length), w.grownBy wz none → ∃ b o, a0 = some ⟨b, o, none⟩ ∧ b < wz.heap.size ∧ ∀ i, i < 9 → wz.cell? ⟨b, o + j * 9 + i, none⟩ = (L[j]).cells[i]?) := Lib.hid (fun wz j hj hg => by
    obtain ⟨b, o, rfl, hb, hc⟩ := h4 (by omega)
    exact ⟨b, o, rfl, Nat.lt_of_lt_of_le hb hg.size, fun i hi => (hg.cell_far ⟨b, o + j * 9 + i, none⟩ hb (by simp)).trans (hc j hj i hi)⟩)
  have HCE : Hid (∀ (wz : World) (j : Nat) (hj : j < L.length), Calls Tryd.prog 49 #[(L[j]).val] wz fun r w' => ∃ v, r = .returned v ∧ BRow w' wz.heap.size v (ew L[j]) ∧ wz.grownBy w' none) := Lib.hid (fun wz j hj => rbytesE _ (h3 _ (List.getElem_mem hj)) (List.all_eq_true.1 hok _ (List.getElem_mem hj)))
  have HOK := Lib.hid hok
  obtain ⟨i0, hi0, hz0, hz1, hz2⟩ := byte_info
  have I0 := Lib.hid hi0
  have I1 := Lib.hid hz0
  have I2 := Lib.hid hz1
  have I3 := Lib.hid hz2
  have k0 := World.grownBy_alloc w (.cells #[] 5) none
  have hb0 := lit_brow w w.heap.size (Nat.le_refl _)
  obtain ⟨B, hB⟩ : ∃ B, B = w.heap.size := ⟨_, rfl⟩
  have HB := Lib.hid hB
  rw [← hB] at hb0 ⊢
  clear hi0 hz0 hz1 hz2 h1 h2 h3 h4 hok
  go_enter Tryd.func36, Tryd.ntmps36
  go_wp2
  rw [← hB]
  clear hB
  generalize w.alloc (.cells #[] 5) = w0 at *
  go_loopw [3, 4] (fun av iv wr => ∃ j : Nat, j ≤ L.length ∧ iv = .int .i64 (j : Int) ∧ Hid (BRow wr B av (wrB (L.take j))) ∧ Hid (w.grownBy wr none)) (fun _ iv _ => L.length - (RowKit.intOf iv).toNat)
  case atStart => exact ⟨0, Nat.zero_le _, rfl, Lib.hid hb0, Lib.hid k0⟩
  case round =>
    obtain ⟨j, hj, rfl, HRW, HG⟩ := hrel
    clear hb0 k0
    by_cases hlt : j < L.length
    · obtain ⟨b, o, ha0, hbw, hcell⟩ := HC.out wr j hlt HG.out
      have hce := HCE.out wr j hlt
      have hin : L[j] ∈ L := List.getElem_mem hlt
      have HTK : Hid (wrB (L.take (j + 1)) = wrB (L.take j) ++ ew L[j]) := Lib.hid (by rw [List.take_succ_eq_append_getElem hlt, wrB_snoc]; rfl)
      have hoke := List.all_eq_true.1 HOK.out _ hin
      have hel := eb_len hoke
      have heB := ew_isB hoke
      have hewl : (ew L[j]).length = (eb L[j]).length + 1 := rfl
      have hwl := wrB_len (L.take j) (fun e he => List.all_eq_true.1 HOK.out e (List.mem_of_mem_take he))
      rw [List.length_take, Nat.min_eq_left hj] at hwl
      generalize wrB (L.take j) = P at *
      generalize ew L[j] = E at *
      generalize (eb L[j]).length = el at *
      clear hin hoke
      generalize L[j] = e at *
      obtain ⟨k, who, n, ⟨op, a, b2, c⟩, d, m⟩ := e
      have c0 : wr.cell? ⟨b, o + j * 9, none⟩ = some (.int .i64 k) := hcell 0 (by decide)
      have c1 : wr.cell? ⟨b, o + j * 9 + 1, none⟩ = some (.int .i64 who) := hcell 1 (by decide)
      have c2 : wr.cell? ⟨b, o + j * 9 + 2, none⟩ = some (.int .i64 n) := hcell 2 (by decide)
      have c3 : wr.cell? ⟨b, o + j * 9 + 3, none⟩ = some (.int .i64 op) := hcell 3 (by decide)
      have c4 : wr.cell? ⟨b, o + j * 9 + 4, none⟩ = some (.int .u64 (a : Nat)) := hcell 4 (by decide)
      have c5 : wr.cell? ⟨b, o + j * 9 + 5, none⟩ = some (.int .u64 (b2 : Nat)) := hcell 5 (by decide)
      have c6 : wr.cell? ⟨b, o + j * 9 + 6, none⟩ = some (.int .u64 (c : Nat)) := hcell 6 (by decide)
      have c7 : wr.cell? ⟨b, o + j * 9 + 7, none⟩ = some (.int .i64 d) := hcell 7 (by decide)
      have c8 : wr.cell? ⟨b, o + j * 9 + 8, none⟩ = some (.int .i64 m) := hcell 8 (by decide)
      subst ha0
      unfold En.val at hce
      simp only at hce
      have CE := Lib.hid hce
      have q1 : ((j : Nat) : Int) < ((L.length : Nat) : Int) := by omega
      have q0 : ¬ ((j : Nat) : Int) < 0 := by omega
      clear hcell hce
      go_wp2_with fail
      refine CE.out.mono ?_
      rintro r w1 ⟨ve, rfl, q2, g2⟩
      have HRW1 := Lib.hid (HRW.out.grown g2)
      have HG1 := Lib.hid (HG.out.trans g2)
      have sr := (q2.reads heB).srcA
      have hB1 : B ≤ w1.heap.size := by rw [HB.out]; exact HG1.out.size
      clear g2 q2 CE c0 c1 c2 c3 c4 c5 c6 c7 c8
      have hown : w1.ownsRow B 5 1 u3 P.length (bys P) := HRW1.out
      go_wp2_with (
      at_builtin
      refine wpList_append_src _ rfl _ _ 38 rfl B 5 i0 (.int .u8 0) 1 1 Tryd.underlying38 I0.out I1.out I2.out I3.out rfl (by decide) u3 P.length (bys P) rfl hown ve E.length (bys E) rfl sr (by unfold maxLen; omega) (by omega) hB1 ?_
      intro v6 w6 hown6 hg6 hnil6 hat6
      have HX6 := Lib.hid (src_put hown6)
      have HG6 := Lib.hid (grow_own HG1.out HRW1.out (by rw [HB.out]; exact Nat.le_refl _) hg6)
      clear hown6 hg6 hnil6 hat6 sr hown hB1
      )
      go_roundw
      case rel => exact ⟨j + 1, by omega, by go_num, Lib.hid (by rw [HTK.out]; exact HX6.out), HG6⟩
      case measure => simp [RowKit.intOf]; omega
    · obtain rfl : j = L.length := by omega
      have hfin := HRW.out
      rw [List.take_length] at hfin
      have HF := Lib.hid hfin
      clear hfin
      go_wp2
      go_ret
      exact ⟨_, rfl, HF.out, HG.out⟩
end Go.Proofs.YtcnojgkolpdomaaDoor
