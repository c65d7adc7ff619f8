/-
  Contracts of package wheel, over this seat's translation: upTo.
-/
import Derived.Test.YtkkodhjolgcokaaDoorWheel5
import Derived.Test.YtkkodhjolgcokaaDoorAppSrc
import Derived.Deep.RegionHeld3
namespace Go.Proofs.YtkkodhjolgcokaaDoor
open Go.RowKit Go.Lib
set_option maxRecDepth 100000
set_option linter.unusedVariables false

/-- All that stands in a row's first buckets. -/
def flatL (L : Nat → List Nat) (r : Nat) : Nat → List Nat
  | 0 => []
  | j + 1 => flatL L r j ++ L (r * 64 + j)

theorem flat_len {L : Nat → List Nat} {r c : Nat} (h : ∀ j, j < 64 → (L (r * 64 + j)).length ≤ c) : ∀ j, j ≤ 64 → (flatL L r j).length ≤ j * c
  | 0, _ => by simp [flatL]
  | j + 1, hj => by
    have h1 := flat_len h j (by omega)
    have h2 := h j (by omega)
    simp only [flatL, List.length_append, Nat.add_mul]
    omega

/-- 'append' as one step of a region that draws, its run known. -/
theorem step_append_run {P : Program} {ops : Array Oper} {o : Oper} {a : Act} {w : World} {K : Act → World → Prop} {Q : Exit → Act → World → Prop} {E : Prop}
    (hg : o.guard = none) (s x : Operand) (t : TypeId) (hop : o.op = Op.call { callee := Callee.builtin Builtin.append, args := #[s, x], argTypes := #[t, t] })
    (v xv v' : Value) (w' : World) (hs : a.eval s = v) (hx : a.eval x = xv) (hrun : (Builtin.append_ #[t, t] o.type #[v, xv]).run P w = .ok v' w') (hK : K (a.put o.dst v') w') :
    if Region.wanted o (yielded ops a.tmps) = true then Oper.wp P o a w K Q else E := by
  have hw : Region.wanted o (yielded ops a.tmps) = true := by simp [Region.wanted, hg]
  rw [if_pos hw]
  unfold Oper.wp execOp
  simp only [hop, resolve, invoke, builtin, Sem.run_bind, Sem.run_pure, Result.andThen_ok, List.map_toArray, List.map_cons, List.map_nil, hs, hx, hrun]
  exact hK

section
variable {w : World} {wb ab lb n now : Nat} {A : Nat → Nat × Nat} {L : Nat → List Nat} {C : Nat → Nat}

set_option maxHeartbeats 1000000 in
theorem wupTo_none (r : Nat) (b : Int) (H : WhMem w wb ab lb n now A L C) (hr : r < 12) (h0 : C r = 0) : Calls Tryd.prog 69 #[.pointer (some ⟨wb, 0, none⟩), .int .i64 r, .int .i64 b] w fun e w' => e = .returned (.slice none 0 0) ∧ w = w' := by
  have c := H.c3 r hr
  rw [h0] at c
  have k1 : (r : Int) < 12 := by omega
  clear H h0
  go_enter Tryd.func69, Tryd.ntmps69
  go_wp2
  go_ret
  exact ⟨rfl, rfl⟩

set_option maxHeartbeats 4000000 in
theorem wupTo_some (r b : Nat) (H : WhMem w wb ab lb n now A L C) (hr : r < 12) (hb : b < 64) (h0 : 0 < C r) (hc : C r ≤ 4096) (hl : ∀ j, j < 64 → (L (r * 64 + j)).length ≤ 4096) : Calls Tryd.prog 69 #[.pointer (some ⟨wb, 0, none⟩), .int .i64 r, .int .i64 b] w fun e w' =>
    ∃ q cp, e = .returned (.slice (some ⟨q, 0, none⟩) (flatL L r (b + 1)).length cp) ∧ w.grownBy w' none ∧ RowOf w' w.heap.size q cp (flatL L r (b + 1)) := by
  obtain ⟨c, hcc⟩ : ∃ c, C r = c := ⟨_, rfl⟩
  have d0 := H.c3 r hr
  rw [hcc] at d0 h0 hc
  have k1 : (r : Int) < 12 := by omega
  have h0' : ¬ (c : Int) = 0 := by omega
  have hmk : ∀ W : World, (Instr.makeSlice 30 (.int .i64 0) (.int .i64 (c : Int))).run Tryd.prog W = _ := fun W => make_ints 0 c (by omega) (by omega) W
  have R0 := Lib.hid (make_room w w.heap.size c (Nat.le_refl _) (by omega))
  have K0 := Lib.hid (World.grownBy_alloc w (.cells (madeCells #[.int .i64 0] c) 3) none)
  obtain ⟨bz, hbz⟩ : ∃ bz : Int, ((b + 1 : Nat) : Int) = bz := ⟨_, rfl⟩
  have x1 : IntKind.i64.wrap ((b : Int) + 1) = bz := by rw [IntKind.wrap_i64]; omega
  have HBZ := Lib.hid hbz
  have HH := Lib.hid H
  have HL := Lib.hid hl
  obtain ⟨i0, hi0, hz0, hz1, hz2⟩ := int_info
  have I0 := Lib.hid hi0
  have I1 := Lib.hid hz0
  have I2 := Lib.hid hz1
  have I3 := Lib.hid hz2
  clear H hl hbz hi0 hz0 hz1 hz2 hcc
  go_enter Tryd.func69, Tryd.ntmps69
  go_wp2
  generalize w.alloc (.cells (madeCells #[.int .i64 0] c) 3) = w1 at *
  clear hmk d0 h0' h0
  try (rename ((c : Int) == 0) = false => q1; clear q1)
  try (rename ¬ (c : Int) = 0 => q1; clear q1)
  go_loopw [7, 25] (fun av it wr => ∃ j q cp : Nat, j ≤ b + 1 ∧ it = .int .i64 j ∧ av = .slice (some ⟨q, 0, none⟩) (flatL L r j).length cp ∧ Hid (RowOf wr w.heap.size q cp (flatL L r j)) ∧ Hid (w.grownBy wr none)) (fun av it _ => b + 1 - (Go.RowKit.intOf it).toNat)
  case atStart => exact ⟨0, w.heap.size, c, Nat.zero_le _, rfl, rfl, R0, K0⟩
  case round =>
    obtain ⟨j, q, cp, hj, rfl, rfl, RR, KR⟩ := hrel
    clear R0 K0
    by_cases hjb : j < b + 1
    · have hji : (j : Int) < bz := by have := HBZ.out; omega
      have hj64 : (j : Int) < 64 := by omega
      have CL := Lib.hid (fun v => listOf_any r j v (by omega) (by omega))
      obtain ⟨li, hli⟩ : ∃ li, r * 64 + j = li := ⟨_, rfl⟩
      have HLI := Lib.hid hli
      have hfl := flat_len (c := 4096) HL.out j (by omega)
      have hll := HL.out j (by omega)
      have hlm : li < 768 := by omega
      have CALL := Lib.hid (fun (v : World) (hv : w.grownBy v none) => all_in li (HH.out.kept hv).links hlm)
      have hfs : Hid (flatL L r (j + 1) = flatL L r j ++ L li) := Lib.hid (by rw [← hli]; rfl)
      rw [hli] at CL hll
      clear hli
      generalize hF : flatL L r j = F at *
      clear hF
      go_wp2
      have kd : wr.grownBy wr.drew none := ⟨rfl, rfl, rfl, Nat.le_refl _, fun _ _ _ => rfl⟩
      have RD := Lib.hid (RR.out.kept kd (by simp))
      have KD := Lib.hid (KR.out.trans kd)
      have hrd : wr.drew.cell? ⟨wb, 2, none⟩ = some (.pointer (some ⟨lb + 4, 0, none⟩)) := (HH.out.kept KD.out).c2
      refine wp_region_held_drew (S := fun w' => w'.cell? ⟨wb, 2, none⟩ = some (.pointer (some ⟨lb + 4, 0, none⟩))) (by kernel_rfl) hrd (fun hHeld => ?_)
      clear RR KR kd
      generalize wr.drew = w2 at *
      refine wpAnyH_take (i := 0) (oi := ⟨_, _, _, _, _, _⟩) (v := ?_) rfl (by kernel_rfl) (by kernel_rfl) (by kernel_rfl) (fun _ _ _ h => h) (Or.inl ⟨by rfl, ?_⟩) (by assumption) ?_
      rotate_left
      · intro wz hSw
        go_simp
        try with_reducible rfl
      simp only [Act.put, List.setIfInBounds_toArray, List.set_cons_zero, List.set_cons_succ]
      refine wpAnyH_take (i := 1) (oi := ⟨_, _, _, _, _, _⟩) (v := ?_) rfl (by kernel_rfl) (by kernel_rfl) (by kernel_rfl) (fun _ _ _ h => h) (Or.inl ⟨by rfl, ?_⟩) (by assumption) ?_
      rotate_left
      · intro wz hSw
        go_simp
        try with_reducible rfl
      simp only [Act.put, List.setIfInBounds_toArray, List.set_cons_zero, List.set_cons_succ]
      refine wpAnyH_take (i := 2) (oi := ⟨_, _, _, _, _, _⟩) (v := ?_) rfl (by kernel_rfl) (by kernel_rfl) (by kernel_rfl) (fun _ _ _ h => h) (Or.inl ⟨by rfl, ?_⟩) (by assumption) ?_
      rotate_left
      · intro wz hSw
        go_simp
        try with_reducible rfl
      simp only [Act.put, List.setIfInBounds_toArray, List.set_cons_zero, List.set_cons_succ]
      refine wpAnyH_take (i := 3) (oi := ⟨_, _, _, _, _, _⟩) (v := ?_) rfl (by kernel_rfl) (by kernel_rfl) (by kernel_rfl) (fun _ _ _ h => h) (Or.inl ⟨by rfl, ?_⟩) (by assumption) ?_
      rotate_left
      · intro wz hSw
        go_simp
        try with_reducible rfl
      simp only [Act.put, List.setIfInBounds_toArray, List.set_cons_zero, List.set_cons_succ]
      refine wpAnyH_take (i := 4) (oi := ⟨_, _, _, _, _, _⟩) (v := ?_) rfl (by kernel_rfl) (by kernel_rfl) (by kernel_rfl) (fun _ _ _ h => h) (Or.inl ⟨by rfl, ?_⟩) (by assumption) ?_
      rotate_left
      · intro wz hSw
        go_simp
        try with_reducible rfl
      simp only [Act.put, List.setIfInBounds_toArray, List.set_cons_zero, List.set_cons_succ]
      refine wpAnyH_take (i := 5) (oi := ⟨_, _, _, _, _, _⟩) (v := ?_) rfl (by kernel_rfl) (by kernel_rfl) (by kernel_rfl) (fun _ _ _ h => h) (Or.inl ⟨by rfl, ?_⟩) (by assumption) ?_
      rotate_left
      · intro wz hSw
        go_simp
        try with_reducible rfl
      simp only [Act.put, List.setIfInBounds_toArray, List.set_cons_zero, List.set_cons_succ]
      refine wpAnyH_take (i := 6) (oi := ⟨_, _, _, _, _, _⟩) (v := ?_) rfl (by kernel_rfl) (by kernel_rfl) (by kernel_rfl) (fun _ _ _ h => h) (Or.inl ⟨by rfl, ?_⟩) (by assumption) ?_
      rotate_left
      · intro wz hSw
        go_simp
        try with_reducible rfl
      simp only [Act.put, List.setIfInBounds_toArray, List.set_cons_zero, List.set_cons_succ]
      refine wpAnyH_ready (rs := [7]) (by kernel_rfl) (by simp) ?_
      refine AllReadyH.cons (o := ⟨_, _, _, _, _, _⟩) rfl (fun K hK => ?_) AllReadyH.nil
      go_simp
      refine (CL.out _).mono ?_
      rintro e w' ⟨rfl, rfl⟩
      refine hK.out _ _ hrd (fun hHeld2 => ?_)
      clear hK K CL
      try simp only [Act.put, List.setIfInBounds_toArray, List.set_cons_zero, List.set_cons_succ]
      refine wpAnyH_ready (rs := [8]) (by kernel_rfl) (by simp) ?_
      refine AllReadyH.cons (o := ⟨_, _, _, _, _, _⟩) rfl (fun K hK => ?_) AllReadyH.nil
      go_simp
      refine (CALL.out _ KD.out).mono ?_
      rintro e w3 ⟨q3, cp3, rfl, k3, R3⟩
      have RD3 := Lib.hid (RD.out.kept k3 (by simp))
      have KD3 := Lib.hid (KD.out.trans k3)
      have RN3 := Lib.hid R3
      have hrd3 : w3.cell? ⟨wb, 2, none⟩ = some (.pointer (some ⟨lb + 4, 0, none⟩)) := k3.cell hrd (by simp)
      refine hK.out _ _ hrd3 (fun hHeld3 => ?_)
      clear hK K CALL RD KD k3 R3
      try simp only [Act.put, List.setIfInBounds_toArray, List.set_cons_zero, List.set_cons_succ]
      obtain ⟨v4, w4, hrun, own4, gr4, nil4, at4⟩ := run_append_src Tryd.prog w3 w.heap.size 30 30 3 i0 (.int .i64 0) 1 8 Tryd.underlying30 I0.out I1.out I2.out I3.out rfl (by decide) _ F.length (ints F) RD3.out (.slice (some ⟨q3, 0, none⟩) (L li).length cp3) (L li).length (ints (L li)) (Or.inl ⟨⟨q3, 0, none⟩, cp3, rfl, by simp [ints], World.ownsRow.cells RN3.out rfl, ints_one (L li)⟩) (by unfold maxLen; omega) (by omega) (by have := KD3.out.size; exact this)
      have gr4' : w3.grownBy w4 (some q) := gr4
      have hnn : v4 ≠ .slice none 0 0 := fun h => by have := (nil4.1 h).1; cases this
      refine wpAnyH_ready (rs := [9]) (by kernel_rfl) (by simp) ?_
      refine AllReadyH.cons (o := ⟨_, _, _, _, _, _⟩) rfl (fun K hK => ?_) AllReadyH.nil
      refine step_append_run rfl _ _ _ rfl _ _ v4 w4 rfl rfl hrun ?_
      have hqb : wb ≠ q := by have h1 := RowOf.lt RD3.out; have h2 := HH.out.l.1; omega
      have hrd4 : w4.cell? ⟨wb, 2, none⟩ = some (.pointer (some ⟨lb + 4, 0, none⟩)) := gr4'.cell hrd3 (by simpa using hqb)
      refine hK.out _ _ hrd4 (fun hHeld4 => ?_)
      obtain ⟨q4, cp4, rfl⟩ : ∃ q4 cp4, v4 = .slice (some ⟨q4, 0, none⟩) (F.length + (L li).length) cp4 := by
        rcases own4.2 with ⟨h, _⟩ | ⟨g, cap, cur, hv, _⟩
        · exact absurd h hnn
        · exact ⟨g, cap, hv⟩
      have RN4 : Hid (RowOf w4 w.heap.size q4 cp4 (flatL L r (j + 1))) := Lib.hid (by
        rw [hfs.out]
        unfold RowOf
        rw [List.length_append, ← ints_add]
        exact own4)
      have KN4 := Lib.hid (Only.on KD3.out (Only.of_some gr4' (Nat.le_refl _) (Nat.lt_succ_self _)) (RowOf.lt RD3.out).1)
      have HLEN : Hid (F.length + (L li).length = (flatL L r (j + 1)).length) := Lib.hid (by rw [hfs.out, List.length_append])
      clear hK K gr4' gr4 own4 nil4 at4 hrun hnn RD3 RN3 KD3 hrd hrd3 hrd4
      try simp only [Act.put, List.setIfInBounds_toArray, List.set_cons_zero, List.set_cons_succ]
      refine wpAnyH_take (i := 10) (oi := ⟨_, _, _, _, _, _⟩) (v := ?_) rfl (by kernel_rfl) (by kernel_rfl) (by kernel_rfl) (fun _ _ _ h => h) (Or.inl ⟨by rfl, ?_⟩) (by assumption) ?_
      rotate_left
      · intro wz hSw
        go_simp
        try with_reducible rfl
      simp only [Act.put, List.setIfInBounds_toArray, List.set_cons_zero, List.set_cons_succ]
      refine wpAnyH_done (by kernel_rfl) ?_ _
      clear hHeld hHeld2 hHeld3 hHeld4 hfl hll
      go_wp2
      go_roundw
      case rel => exact ⟨j + 1, q4, cp4, by omega, by go_num, by rw [HLEN.out], RN4, KN4⟩
      case measure => simp [Go.RowKit.intOf]; omega
    · obtain rfl : j = b + 1 := by omega
      have hji : ¬ ((b + 1 : Nat) : Int) < bz := by have := HBZ.out; omega
      have hjz : ((b + 1 : Nat) : Int) = bz := HBZ.out
      rw [hjz] at hji ⊢
      clear hjb hjz
      go_wp2
      go_ret
      exact ⟨q, cp, rfl, KR.out, RR.out⟩
end
end Go.Proofs.YtkkodhjolgcokaaDoor
