/-
  Texts of one claim, joined, one behind the other.
-/
import Derived.Test.YtkkodhjolgcokaaDoorJoin8
import Derived.Deep.RegionHeld3
/-
  Contracts of package wheel, over this seat's translation: upTo.
-/
namespace Go.Proofs.YtkkodhjolgcokaaDoor
open Go.RowKit Go.Lib
set_option maxRecDepth 100000
set_option linter.unusedVariables false

/-- All that stands in a row's first buckets. -/
def flatL (L : Nat → List Nat) (r : Nat) : Nat → List Nat
  | 0 => []
  | j + 1 => flatL L r j ++ L (r * 64 + j)

theorem flat_len {L : Nat → List Nat} {r c : Nat} (h : ∀ j, j < 64 → (L (r * 64 + j)).length ≤ c) : ∀ j, j ≤ 64 → (flatL L r j).length ≤ j * c
  | 0, _ => by simp [flatL]
  | j + 1, hj => by
    have h1 := flat_len h j (by omega)
    have h2 := h j (by omega)
    simp only [flatL, List.length_append, Nat.add_mul]
    omega

/-- 'append' as one step of a region that draws, its run known. -/
theorem step_append_run {P : Program} {ops : Array Oper} {o : Oper} {a : Act} {w : World} {K : Act → World → Prop} {Q : Exit → Act → World → Prop} {E : Prop}
    (hg : o.guard = none) (s x : Operand) (t : TypeId) (hop : o.op = Op.call { callee := Callee.builtin Builtin.append, args := #[s, x], argTypes := #[t, t] })
    (v xv v' : Value) (w' : World) (hs : a.eval s = v) (hx : a.eval x = xv) (hrun : (Builtin.append_ #[t, t] o.type #[v, xv]).run P w = .ok v' w') (hK : K (a.put o.dst v') w') :
    if Region.wanted o (yielded ops a.tmps) = true then Oper.wp P o a w K Q else E := by
  have hw : Region.wanted o (yielded ops a.tmps) = true := by simp [Region.wanted, hg]
  rw [if_pos hw]
  unfold Oper.wp execOp
  simp only [hop, resolve, invoke, builtin, Sem.run_bind, Sem.run_pure, Result.andThen_ok, List.map_toArray, List.map_cons, List.map_nil, hs, hx, hrun]
  exact hK

section
variable {w : World} {wb ab lb n now : Nat} {A : Nat → Nat × Nat} {L : Nat → List Nat} {C : Nat → Nat}

set_option maxHeartbeats 1000000 in
theorem wupTo_none (r : Nat) (b : Int) (H : WhMem w wb ab lb n now A L C) (hr : r < 12) (h0 : C r = 0) : Calls Tryd.prog 69 #[.pointer (some ⟨wb, 0, none⟩), .int .i64 r, .int .i64 b] w fun e w' => e = .returned (.slice none 0 0) ∧ w = w' := by
  have c := H.c3 r hr
  rw [h0] at c
  have k1 : (r : Int) < 12 := by omega
  clear H h0
  go_enter Tryd.func69, Tryd.ntmps69
  go_wp2
  go_ret
  exact ⟨rfl, rfl⟩

set_option maxHeartbeats 4000000 in
theorem wupTo_some (r b : Nat) (H : WhMem w wb ab lb n now A L C) (hr : r < 12) (hb : b < 64) (h0 : 0 < C r) (hc : C r ≤ 4096) (hl : ∀ j, j < 64 → (L (r * 64 + j)).length ≤ 4096) : Calls Tryd.prog 69 #[.pointer (some ⟨wb, 0, none⟩), .int .i64 r, .int .i64 b] w fun e w' =>
    ∃ q cp, e = .returned (.slice (some ⟨q, 0, none⟩) (flatL L r (b + 1)).length cp) ∧ w.grownBy w' none ∧ RowOf w' w.heap.size q cp (flatL L r (b + 1)) := by
  obtain ⟨c, hcc⟩ : ∃ c, C r = c := ⟨_, rfl⟩
  have d0 := H.c3 r hr
  rw [hcc] at d0 h0 hc
  have k1 : (r : Int) < 12 := by omega
  have h0' : ¬ (c : Int) = 0 := by omega
  have hmk : ∀ W : World, (Instr.makeSlice 30 (.int .i64 0) (.int .i64 (c : Int))).run Tryd.prog W = _ := fun W => make_ints 0 c (by omega) (by omega) W
  have R0 := Lib.hid (make_room w w.heap.size c (Nat.le_refl _) (by omega))
  have K0 := Lib.hid (World.grownBy_alloc w (.cells (madeCells #[.int .i64 0] c) 3) none)
  obtain ⟨bz, hbz⟩ : ∃ bz : Int, ((b + 1 : Nat) : Int) = bz := ⟨_, rfl⟩
  have x1 : IntKind.i64.wrap ((b : Int) + 1) = bz := by rw [IntKind.wrap_i64]; omega
  have HBZ := Lib.hid hbz
  have HH := Lib.hid H
  have HL := Lib.hid hl
  obtain ⟨i0, hi0, hz0, hz1, hz2⟩ := int_info
  have I0 := Lib.hid hi0
  have I1 := Lib.hid hz0
  have I2 := Lib.hid hz1
  have I3 := Lib.hid hz2
  clear H hl hbz hi0 hz0 hz1 hz2 hcc
  go_enter Tryd.func69, Tryd.ntmps69
  go_wp2
  generalize w.alloc (.cells (madeCells #[.int .i64 0] c) 3) = w1 at *
  clear hmk d0 h0' h0
  try (rename ((c : Int) == 0) = false => q1; clear q1)
  try (rename ¬ (c : Int) = 0 => q1; clear q1)
  go_loopw [7, 25] (fun av it wr => ∃ j q cp : Nat, j ≤ b + 1 ∧ it = .int .i64 j ∧ av = .slice (some ⟨q, 0, none⟩) (flatL L r j).length cp ∧ Hid (RowOf wr w.heap.size q cp (flatL L r j)) ∧ Hid (w.grownBy wr none)) (fun av it _ => b + 1 - (Go.RowKit.intOf it).toNat)
  case atStart => exact ⟨0, w.heap.size, c, Nat.zero_le _, rfl, rfl, R0, K0⟩
  case round =>
    obtain ⟨j, q, cp, hj, rfl, rfl, RR, KR⟩ := hrel
    clear R0 K0
    by_cases hjb : j < b + 1
    · have hji : (j : Int) < bz := by have := HBZ.out; omega
      have hj64 : (j : Int) < 64 := by omega
      have CL := Lib.hid (fun v => listOf_any r j v (by omega) (by omega))
      obtain ⟨li, hli⟩ : ∃ li, r * 64 + j = li := ⟨_, rfl⟩
      have HLI := Lib.hid hli
      have hfl := flat_len (c := 4096) HL.out j (by omega)
      have hll := HL.out j (by omega)
      have hlm : li < 768 := by omega
      have CALL := Lib.hid (fun (v : World) (hv : w.grownBy v none) => all_in li (HH.out.kept hv).links hlm)
      have hfs : Hid (flatL L r (j + 1) = flatL L r j ++ L li) := Lib.hid (by rw [← hli]; rfl)
      rw [hli] at CL hll
      clear hli
      generalize hF : flatL L r j = F at *
      clear hF
      go_wp2
      have kd : wr.grownBy wr.drew none := ⟨rfl, rfl, rfl, Nat.le_refl _, fun _ _ _ => rfl⟩
      have RD := Lib.hid (RR.out.kept kd (by simp))
      have KD := Lib.hid (KR.out.trans kd)
      have hrd : wr.drew.cell? ⟨wb, 2, none⟩ = some (.pointer (some ⟨lb + 4, 0, none⟩)) := (HH.out.kept KD.out).c2
      refine wp_region_held_drew (S := fun w' => w'.cell? ⟨wb, 2, none⟩ = some (.pointer (some ⟨lb + 4, 0, none⟩))) (by kernel_rfl) hrd (fun hHeld => ?_)
      clear RR KR kd
      generalize wr.drew = w2 at *
      refine wpAnyH_take (i := 0) (oi := ⟨_, _, _, _, _, _⟩) (v := ?_) rfl (by kernel_rfl) (by kernel_rfl) (by kernel_rfl) (fun _ _ _ h => h) (Or.inl ⟨by rfl, ?_⟩) (by assumption) ?_
      rotate_left
      · intro wz hSw
        go_simp
        try with_reducible rfl
      simp only [Act.put, List.setIfInBounds_toArray, List.set_cons_zero, List.set_cons_succ]
      refine wpAnyH_take (i := 1) (oi := ⟨_, _, _, _, _, _⟩) (v := ?_) rfl (by kernel_rfl) (by kernel_rfl) (by kernel_rfl) (fun _ _ _ h => h) (Or.inl ⟨by rfl, ?_⟩) (by assumption) ?_
      rotate_left
      · intro wz hSw
        go_simp
        try with_reducible rfl
      simp only [Act.put, List.setIfInBounds_toArray, List.set_cons_zero, List.set_cons_succ]
      refine wpAnyH_take (i := 2) (oi := ⟨_, _, _, _, _, _⟩) (v := ?_) rfl (by kernel_rfl) (by kernel_rfl) (by kernel_rfl) (fun _ _ _ h => h) (Or.inl ⟨by rfl, ?_⟩) (by assumption) ?_
      rotate_left
      · intro wz hSw
        go_simp
        try with_reducible rfl
      simp only [Act.put, List.setIfInBounds_toArray, List.set_cons_zero, List.set_cons_succ]
      refine wpAnyH_take (i := 3) (oi := ⟨_, _, _, _, _, _⟩) (v := ?_) rfl (by kernel_rfl) (by kernel_rfl) (by kernel_rfl) (fun _ _ _ h => h) (Or.inl ⟨by rfl, ?_⟩) (by assumption) ?_
      rotate_left
      · intro wz hSw
        go_simp
        try with_reducible rfl
      simp only [Act.put, List.setIfInBounds_toArray, List.set_cons_zero, List.set_cons_succ]
      refine wpAnyH_take (i := 4) (oi := ⟨_, _, _, _, _, _⟩) (v := ?_) rfl (by kernel_rfl) (by kernel_rfl) (by kernel_rfl) (fun _ _ _ h => h) (Or.inl ⟨by rfl, ?_⟩) (by assumption) ?_
      rotate_left
      · intro wz hSw
        go_simp
        try with_reducible rfl
      simp only [Act.put, List.setIfInBounds_toArray, List.set_cons_zero, List.set_cons_succ]
      refine wpAnyH_take (i := 5) (oi := ⟨_, _, _, _, _, _⟩) (v := ?_) rfl (by kernel_rfl) (by kernel_rfl) (by kernel_rfl) (fun _ _ _ h => h) (Or.inl ⟨by rfl, ?_⟩) (by assumption) ?_
      rotate_left
      · intro wz hSw
        go_simp
        try with_reducible rfl
      simp only [Act.put, List.setIfInBounds_toArray, List.set_cons_zero, List.set_cons_succ]
      refine wpAnyH_take (i := 6) (oi := ⟨_, _, _, _, _, _⟩) (v := ?_) rfl (by kernel_rfl) (by kernel_rfl) (by kernel_rfl) (fun _ _ _ h => h) (Or.inl ⟨by rfl, ?_⟩) (by assumption) ?_
      rotate_left
      · intro wz hSw
        go_simp
        try with_reducible rfl
      simp only [Act.put, List.setIfInBounds_toArray, List.set_cons_zero, List.set_cons_succ]
      refine wpAnyH_ready (rs := [7]) (by kernel_rfl) (by simp) ?_
      refine AllReadyH.cons (o := ⟨_, _, _, _, _, _⟩) rfl (fun K hK => ?_) AllReadyH.nil
      go_simp
      refine (CL.out _).mono ?_
      rintro e w' ⟨rfl, rfl⟩
      refine hK.out _ _ hrd (fun hHeld2 => ?_)
      clear hK K CL
      try simp only [Act.put, List.setIfInBounds_toArray, List.set_cons_zero, List.set_cons_succ]
      refine wpAnyH_ready (rs := [8]) (by kernel_rfl) (by simp) ?_
      refine AllReadyH.cons (o := ⟨_, _, _, _, _, _⟩) rfl (fun K hK => ?_) AllReadyH.nil
      go_simp
      refine (CALL.out _ KD.out).mono ?_
      rintro e w3 ⟨q3, cp3, rfl, k3, R3⟩
      have RD3 := Lib.hid (RD.out.kept k3 (by simp))
      have KD3 := Lib.hid (KD.out.trans k3)
      have RN3 := Lib.hid R3
      have hrd3 : w3.cell? ⟨wb, 2, none⟩ = some (.pointer (some ⟨lb + 4, 0, none⟩)) := k3.cell hrd (by simp)
      refine hK.out _ _ hrd3 (fun hHeld3 => ?_)
      clear hK K CALL RD KD k3 R3
      try simp only [Act.put, List.setIfInBounds_toArray, List.set_cons_zero, List.set_cons_succ]
      obtain ⟨v4, w4, hrun, own4, gr4, nil4, at4⟩ := run_append_src Tryd.prog w3 w.heap.size 30 30 3 i0 (.int .i64 0) 1 8 Tryd.underlying30 I0.out I1.out I2.out I3.out rfl (by decide) _ F.length (ints F) RD3.out (.slice (some ⟨q3, 0, none⟩) (L li).length cp3) (L li).length (ints (L li)) (Or.inl ⟨⟨q3, 0, none⟩, cp3, rfl, by simp [ints], World.ownsRow.cells RN3.out rfl, ints_one (L li)⟩) (by unfold maxLen; omega) (by omega) (by have := KD3.out.size; exact this)
      have gr4' : w3.grownBy w4 (some q) := gr4
      have hnn : v4 ≠ .slice none 0 0 := fun h => by have := (nil4.1 h).1; cases this
      refine wpAnyH_ready (rs := [9]) (by kernel_rfl) (by simp) ?_
      refine AllReadyH.cons (o := ⟨_, _, _, _, _, _⟩) rfl (fun K hK => ?_) AllReadyH.nil
      refine step_append_run rfl _ _ _ rfl _ _ v4 w4 rfl rfl hrun ?_
      have hqb : wb ≠ q := by have h1 := RowOf.lt RD3.out; have h2 := HH.out.l.1; omega
      have hrd4 : w4.cell? ⟨wb, 2, none⟩ = some (.pointer (some ⟨lb + 4, 0, none⟩)) := gr4'.cell hrd3 (by simpa using hqb)
      refine hK.out _ _ hrd4 (fun hHeld4 => ?_)
      obtain ⟨q4, cp4, rfl⟩ : ∃ q4 cp4, v4 = .slice (some ⟨q4, 0, none⟩) (F.length + (L li).length) cp4 := by
        rcases own4.2 with ⟨h, _⟩ | ⟨g, cap, cur, hv, _⟩
        · exact absurd h hnn
        · exact ⟨g, cap, hv⟩
      have RN4 : Hid (RowOf w4 w.heap.size q4 cp4 (flatL L r (j + 1))) := Lib.hid (by
        rw [hfs.out]
        unfold RowOf
        rw [List.length_append, ← ints_add]
        exact own4)
      have KN4 := Lib.hid (Only.on KD3.out (Only.of_some gr4' (Nat.le_refl _) (Nat.lt_succ_self _)) (RowOf.lt RD3.out).1)
      have HLEN : Hid (F.length + (L li).length = (flatL L r (j + 1)).length) := Lib.hid (by rw [hfs.out, List.length_append])
      clear hK K gr4' gr4 own4 nil4 at4 hrun hnn RD3 RN3 KD3 hrd hrd3 hrd4
      try simp only [Act.put, List.setIfInBounds_toArray, List.set_cons_zero, List.set_cons_succ]
      refine wpAnyH_take (i := 10) (oi := ⟨_, _, _, _, _, _⟩) (v := ?_) rfl (by kernel_rfl) (by kernel_rfl) (by kernel_rfl) (fun _ _ _ h => h) (Or.inl ⟨by rfl, ?_⟩) (by assumption) ?_
      rotate_left
      · intro wz hSw
        go_simp
        try with_reducible rfl
      simp only [Act.put, List.setIfInBounds_toArray, List.set_cons_zero, List.set_cons_succ]
      refine wpAnyH_done (by kernel_rfl) ?_ _
      clear hHeld hHeld2 hHeld3 hHeld4 hfl hll
      go_wp2
      go_roundw
      case rel => exact ⟨j + 1, q4, cp4, by omega, by go_num, by rw [HLEN.out], RN4, KN4⟩
      case measure => simp [Go.RowKit.intOf]; omega
    · obtain rfl : j = b + 1 := by omega
      have hji : ¬ ((b + 1 : Nat) : Int) < bz := by have := HBZ.out; omega
      have hjz : ((b + 1 : Nat) : Int) = bz := HBZ.out
      rw [hjz] at hji ⊢
      clear hjb hjz
      go_wp2
      go_ret
      exact ⟨q, cp, rfl, KR.out, RR.out⟩
end
end Go.Proofs.YtkkodhjolgcokaaDoor
/-
  The arithmetic of a wheel: which row and bucket a time has, and which stay as the time goes on.
-/
namespace Go.Proofs.YtkkodhjolgcokaaDoor
set_option linter.unusedVariables false

theorem bitLenAux_le : ∀ (f x k : Nat), x < 2 ^ f → (Lib.bitLenAux f x ≤ k ↔ x < 2 ^ k)
  | 0, x, k, h => by
    have : x = 0 := by simpa using h
    subst this
    simp [Lib.bitLenAux, Nat.two_pow_pos]
  | f + 1, x, k, h => by
    unfold Lib.bitLenAux
    by_cases h0 : x = 0
    · subst h0; simp [Nat.two_pow_pos]
    · rw [if_neg h0]
      have hx : x / 2 < 2 ^ f := by rw [Nat.pow_succ] at h; omega
      cases k with
      | zero => simp; omega
      | succ k =>
        have ih := bitLenAux_le f (x / 2) k hx
        rw [Nat.pow_succ]
        constructor
        · intro h1; have := ih.1 (by omega); omega
        · intro h1; have := ih.2 (by omega); omega
theorem bitLen_le {x k : Nat} (h : x < 18446744073709551616) : Lib.bitLen x ≤ k ↔ x < 2 ^ k := bitLenAux_le 64 x k h
theorem xor_lt {a b : Nat} (k : Nat) : a ^^^ b < 2 ^ k ↔ a / 2 ^ k = b / 2 ^ k := by
  have e : (a ^^^ b) / 2 ^ k = (a / 2 ^ k) ^^^ (b / 2 ^ k) := by
    rw [← Nat.shiftRight_eq_div_pow, ← Nat.shiftRight_eq_div_pow, ← Nat.shiftRight_eq_div_pow, Nat.shiftRight_xor_distrib]
  rw [← Nat.div_eq_zero_iff_lt (Nat.two_pow_pos k), e]
  constructor
  · intro h
    apply Nat.eq_of_testBit_eq
    intro i
    have h1 := congrArg (fun x => x.testBit i) h
    simp only [Nat.testBit_xor, Nat.zero_testBit] at h1
    revert h1
    cases (a / 2 ^ k).testBit i <;> cases (b / 2 ^ k).testBit i <;> simp
  · intro h; rw [h, Nat.xor_self]
theorem xor_lt64 {a b : Nat} (ha : a < 18446744073709551616) (hb : b < 18446744073709551616) : a ^^^ b < 18446744073709551616 := Nat.xor_lt_two_pow (n := 64) ha hb
theorem bitLen64 {a b : Nat} (ha : a < 18446744073709551616) (hb : b < 18446744073709551616) : Lib.bitLen (a ^^^ b) ≤ 64 := (bitLen_le (xor_lt64 ha hb)).2 (xor_lt64 ha hb)

/-- The row, by the digits that stay. -/
theorem row_le {now t : Nat} (ht : t < 18446744073709551616) (hn : now < 18446744073709551616) (h : now < t) (r : Nat) : rowN now t ≤ r ↔ t / 2 ^ (6 * r) = now / 2 ^ (6 * r) := by
  unfold rowN
  rw [if_neg (by omega), ← xor_lt, ← bitLen_le (xor_lt64 ht hn)]
  omega
theorem row_zero {now t : Nat} (ht : t < 18446744073709551616) (hn : now < 18446744073709551616) : rowN now t = 0 ↔ t ≤ now := by
  constructor
  · intro h
    rcases Nat.lt_or_ge now t with h1 | h1
    · have := (row_le ht hn h1 0).1 (by omega)
      simp at this; omega
    · exact h1
  · intro h; unfold rowN; rw [if_pos h]
theorem div_more {a b : Nat} {i j : Nat} (h : a / 2 ^ i = b / 2 ^ i) (hij : i ≤ j) : a / 2 ^ j = b / 2 ^ j := by
  obtain ⟨d, rfl⟩ := Nat.exists_eq_add_of_le hij
  rw [Nat.pow_add, ← Nat.div_div_eq_div_mul, ← Nat.div_div_eq_div_mul, h]

/-- An alarm in a bucket that the time does not come to stays where it stands. -/
theorem slot_stays {now tg t : Nat} (ht : t < 18446744073709551616) (hto : tg < 18446744073709551616) (h1 : now < tg) (h2 : now < t)
    (h : rowN now tg < rowN now t ∨ (rowN now t = rowN now tg ∧ digN (rowN now tg) tg < digN (rowN now t) t)) : tg < t ∧ rowN tg t = rowN now t := by
  have hn : now < 18446744073709551616 := by omega
  have ltop := row_le hto hn h1
  have lrow := row_le ht hn h2
  have r0 : rowN now t ≠ 0 := fun e => by have := (row_zero ht hn).1 e; omega
  generalize hR : rowN now t = R at *
  generalize hT : rowN now tg = T at *
  have e1 := (lrow R).1 (Nat.le_refl _)
  have e2 := (ltop T).1 (Nat.le_refl _)
  obtain ⟨Q, rfl⟩ : ∃ Q, R = Q + 1 := ⟨R - 1, by omega⟩
  have e3 : t / 2 ^ (6 * Q) ≠ now / 2 ^ (6 * Q) := fun e => by have := (lrow Q).2 e; omega
  have key : tg / 2 ^ (6 * Q) < t / 2 ^ (6 * Q) := by
    rcases h with h | ⟨h, hd⟩
    · have e4 : tg / 2 ^ (6 * Q) = now / 2 ^ (6 * Q) := div_more e2 (by omega)
      have e5 : now / 2 ^ (6 * Q) ≤ t / 2 ^ (6 * Q) := Nat.div_le_div_right (by omega)
      omega
    · subst h
      unfold digN at hd
      rw [if_neg (by omega), if_neg (by omega), Nat.add_sub_cancel] at hd
      have e4 : t / 2 ^ (6 * (Q + 1)) = tg / 2 ^ (6 * (Q + 1)) := e1.trans e2.symm
      rw [show 6 * (Q + 1) = 6 * Q + 6 by omega, Nat.pow_add, ← Nat.div_div_eq_div_mul, ← Nat.div_div_eq_div_mul] at e4
      generalize t / 2 ^ (6 * Q) = x at *
      generalize tg / 2 ^ (6 * Q) = y at *
      have e6 : (2 : Nat) ^ 6 = 64 := rfl
      rw [e6] at e4
      omega
  have hlt : tg < t := by
    rcases Nat.lt_or_ge tg t with h3 | h3
    · exact h3
    · have := Nat.div_le_div_right (c := 2 ^ (6 * Q)) h3; omega
  refine ⟨hlt, ?_⟩
  have l2 := row_le ht hto hlt
  have u1 : rowN tg t ≤ Q + 1 := (l2 (Q + 1)).2 (by
    rcases h with h | ⟨h, _⟩
    · rw [e1]; exact (div_more e2 (by omega)).symm
    · subst h; rw [e1, e2])
  have u2 : ¬ rowN tg t ≤ Q := fun e => by have := (l2 Q).1 e; omega
  omega
theorem slotN_stays {now tg t : Nat} (ht : t < 18446744073709551616) (hto : tg < 18446744073709551616) (h1 : now < tg) (h2 : now < t)
    (h : rowN now tg < rowN now t ∨ (rowN now t = rowN now tg ∧ digN (rowN now tg) tg < digN (rowN now t) t)) : slotN tg t = slotN now t := by
  unfold slotN; rw [(slot_stays ht hto h1 h2 h).2]

/-- An alarm on an earlier list has an earlier time. -/
theorem slot_order {now a b : Nat} (ha : a < 18446744073709551616) (hb : b < 18446744073709551616) (hn : now < 18446744073709551616) (h : slotN now a < slotN now b) : a < b := by
  have da := digN_lt (rowN now a) a
  have db := digN_lt (rowN now b) b
  unfold slotN at h
  have hb0 : now < b := by
    rcases Nat.lt_or_ge now b with h1 | h1
    · exact h1
    · have := (row_zero hb hn).2 h1
      rw [this] at h
      simp [digN] at h
  rcases Nat.lt_or_ge now a with ha0 | ha0
  · have la := row_le ha hn ha0
    have lb := row_le hb hn hb0
    have rb0 : rowN now b ≠ 0 := fun e => by have := (row_zero hb hn).1 e; omega
    generalize rowN now a = R at *
    generalize rowN now b = T at *
    have e1 := (la R).1 (Nat.le_refl _)
    have e2 := (lb T).1 (Nat.le_refl _)
    obtain ⟨Q, rfl⟩ : ∃ Q, T = Q + 1 := ⟨T - 1, by omega⟩
    have e3 : b / 2 ^ (6 * Q) ≠ now / 2 ^ (6 * Q) := fun e => by have := (lb Q).2 e; omega
    have e5 : now / 2 ^ (6 * Q) ≤ b / 2 ^ (6 * Q) := Nat.div_le_div_right (by omega)
    have key : a / 2 ^ (6 * Q) < b / 2 ^ (6 * Q) := by
      rcases Nat.lt_or_ge R (Q + 1) with h1 | h1
      · have e4 : a / 2 ^ (6 * Q) = now / 2 ^ (6 * Q) := div_more e1 (by omega)
        omega
      · obtain rfl : R = Q + 1 := by omega
        have hd : digN (Q + 1) a < digN (Q + 1) b := by omega
        unfold digN at hd
        rw [if_neg (by omega), if_neg (by omega), Nat.add_sub_cancel] at hd
        have e4 : a / 2 ^ (6 * (Q + 1)) = b / 2 ^ (6 * (Q + 1)) := e1.trans e2.symm
        rw [show 6 * (Q + 1) = 6 * Q + 6 by omega, Nat.pow_add, ← Nat.div_div_eq_div_mul, ← Nat.div_div_eq_div_mul] at e4
        have e6 : (2 : Nat) ^ 6 = 64 := rfl
        rw [e6] at e4
        generalize a / 2 ^ (6 * Q) = x at *
        generalize b / 2 ^ (6 * Q) = y at *
        omega
    rcases Nat.lt_or_ge a b with h3 | h3
    · exact h3
    · have := Nat.div_le_div_right (c := 2 ^ (6 * Q)) h3; omega
  · omega
end Go.Proofs.YtkkodhjolgcokaaDoor
/-
  Contracts of package wheel, over this seat's translation: New.
-/
namespace Go.Proofs.YtkkodhjolgcokaaDoor
open Go.RowKit Go.Lib
set_option maxRecDepth 100000
set_option linter.unusedVariables false

theorem made_al (n k : Nat) (h : k < n) : (madeCells #[.int .u64 0, .int .u64 0] (n * 2))[k * 2]? = some (.int .u64 0) ∧ (madeCells #[.int .u64 0, .int .u64 0] (n * 2))[k * 2 + 1]? = some (.int .u64 0) := by
  have h1 : k * 2 < n * 2 := by omega
  have h2 : k * 2 + 1 < n * 2 := by omega
  have e1 : k * 2 % 2 = 0 := by omega
  have e2 : (k * 2 + 1) % 2 = 1 := by omega
  constructor
  · simp [madeCells, h1, e1]
  · simp [madeCells, h2, e2]
theorem make_al (n : Nat) (hn : n ≤ 4096) (w : World) :
    (Instr.makeSlice 73 (.int .i64 (n : Int)) (.int .i64 (n : Int))).run Tryd.prog w =
      .ok (.slice (some ⟨w.heap.size, 0, none⟩) n n) (w.alloc (.cells (madeCells #[.int .u64 0, .int .u64 0] (n * 2)) 79)) := by
  obtain ⟨i, hi, hz⟩ : ∃ i : TypeInfo, Tryd.prog.info? 79 = some i ∧ i.zero = some (.agg #[.int .u64 0, .int .u64 0]) ∧ i.bytes = 16 ∧ i.size = 2 := ⟨_, rfl, rfl, rfl, rfl⟩
  have h := run_make (P := Tryd.prog) w 73 79 i _ Tryd.underlying73 hi hz.1 .i64 .i64 (n : Int) (n : Int) (by omega) (by omega) (by rw [hz.2.1]; omega) (by omega)
  rw [hz.2.2, Int.toNat_natCast] at h
  exact h

/-- The cells of a wheel that is new. -/
abbrev whCells (now : Nat) (ab lb n : Nat) : Array Value := #[.int .u64 (now : Nat), .slice (some ⟨ab, 0, none⟩) n n, .pointer (some ⟨lb + 4, 0, none⟩), .int .i64 0, .int .i64 0, .int .i64 0, .int .i64 0, .int .i64 0, .int .i64 0, .int .i64 0, .int .i64 0, .int .i64 0, .int .i64 0, .int .i64 0, .int .i64 0]

theorem cell_at_new (w : World) (a : Array Value) (t : TypeId) {j : Nat} {v : Value} (h : a[j]? = some v) : (w.alloc (.cells a t)).cell? ⟨w.heap.size, j, none⟩ = some v := by
  rw [cell_of_row _ _ j a t (0, 0) (heap_alloc_new w _)]; exact h

theorem frozen_newC (w : World) (a : Array Value) (t : TypeId) (j : Nat) : (w.alloc (.cells a t)).frozen? ⟨w.heap.size, j, none⟩ = false := by simp

theorem WhMem.made {w : World} {lb n now : Nat} (hl : LinksAt w lb n 768 (fun _ => [])) (hlt : lb + 5 ≤ w.heap.size) (hn : now < 18446744073709551616) :
    WhMem ((w.alloc (.cells (madeCells #[.int .u64 0, .int .u64 0] (n * 2)) 79)).alloc (.cells (whCells now w.heap.size lb n) 77)) (w.heap.size + 1) w.heap.size lb n now (fun _ => (0, 0)) (fun _ => []) (fun _ => 0) := by
  have hs : (w.alloc (.cells (madeCells #[.int .u64 0, .int .u64 0] (n * 2)) 79)).heap.size = w.heap.size + 1 := by simp
  have k1 := World.grownBy_alloc w (.cells (madeCells #[.int .u64 0, .int .u64 0] (n * 2)) 79) none
  have k2 := World.grownBy_alloc (w.alloc (.cells (madeCells #[.int .u64 0, .int .u64 0] (n * 2)) 79)) (.cells (whCells now w.heap.size lb n) 77) none
  have top : ∀ j v, (whCells now w.heap.size lb n)[j]? = some v → ((w.alloc (.cells (madeCells #[.int .u64 0, .int .u64 0] (n * 2)) 79)).alloc (.cells (whCells now w.heap.size lb n) 77)).cell? ⟨w.heap.size + 1, j, none⟩ = some v := fun j v h => by
    have := cell_at_new (w.alloc (.cells (madeCells #[.int .u64 0, .int .u64 0] (n * 2)) 79)) _ 77 h
    rwa [hs] at this
  refine ⟨top 0 _ rfl, top 1 _ rfl, top 2 _ rfl, fun r hr => ?_, fun j => ?_, fun k hk => ?_, fun j => ?_, hl.kept ((Only.of_none (lo := 0) (hi := 0) (k1.trans k2))) (Or.inr (Nat.zero_le _)), ⟨hn, fun k hk => ⟨by omega, by omega⟩⟩, ⟨by omega, by omega, by omega⟩, ⟨?_, ?_⟩⟩
  · match r, hr with
    | 0, _ | 1, _ | 2, _ | 3, _ | 4, _ | 5, _ | 6, _ | 7, _ | 8, _ | 9, _ | 10, _ | 11, _ => exact top _ _ rfl
  · have := frozen_newC (w.alloc (.cells (madeCells #[.int .u64 0, .int .u64 0] (n * 2)) 79)) (whCells now w.heap.size lb n) 77 j
    rwa [hs] at this
  · obtain ⟨e1, e2⟩ := made_al n k hk
    exact ⟨k2.cell (cell_at_new w _ _ e1) (by simp), k2.cell (cell_at_new w _ _ e2) (by simp)⟩
  · exact ((Only.of_none (lo := 0) (hi := 0) k2).frozen ⟨w.heap.size, j, none⟩ (by simp) (Or.inr (Nat.zero_le _))).trans (frozen_newC w _ _ j)
  · simp
  · simp
    omega

set_option maxHeartbeats 2000000 in
theorem wnew_any (a : Int) (now : Nat) (hn : now < 18446744073709551616) (w : World) :
    Calls Tryd.prog 35 #[.int .i64 a, .int .u64 (now : Nat)] w fun e w' => ∃ wb ab, e = .returned (.pointer (some ⟨wb, 0, none⟩)) ∧ w.heap.size ≤ wb ∧ w.heap.size ≤ ab ∧ w.grownBy w' none ∧ WhMem w' wb ab w.heap.size (clampC a) now (fun _ => (0, 0)) (fun _ => []) (fun _ => 0) := by
  have C1 := Lib.hid (new_anyC a 768 w)
  have hcl : clampC a ≤ 4096 := by unfold clampC; omega
  have hc768 : clampC 768 = 768 := by decide
  have hmk : ∀ W : World, (Instr.makeSlice 73 (.int .i64 (clampC a : Int)) (.int .i64 (clampC a : Int))).run Tryd.prog W = _ := fun W => make_al (clampC a) hcl W
  obtain ⟨lb, hlb⟩ : ∃ lb, w.heap.size = lb := ⟨_, rfl⟩
  rw [hc768, hlb] at C1
  rw [hlb]
  generalize clampC a = n at *
  clear hc768 hcl
  go_enter Tryd.func35, Tryd.ntmps35
  go_wp2_with fail
  refine C1.out.mono ?_
  rintro e w1 ⟨rfl, k1, H1⟩
  have hl5 : Hid (lb + 5 ≤ w1.heap.size) := Lib.hid (LinksAt.sz H1)
  have C2 := Lib.hid (numbers_any H1)
  have HH := Lib.hid (WhMem.made H1 hl5.out hn)
  have KK := Lib.hid (k1.trans ((World.grownBy_alloc w1 (.cells (madeCells #[.int .u64 0, .int .u64 0] (n * 2)) 79) none).trans (World.grownBy_alloc _ (.cells (whCells now w1.heap.size lb n) 77) none)))
  have hsz : Hid (lb ≤ w1.heap.size) := Lib.hid (by have := hl5.out; omega)
  clear C1 k1 H1
  go_wp2_with fail
  refine C2.out.mono ?_
  rintro e w' ⟨rfl, rfl⟩
  clear C2
  go_wp2
  go_ret
  exact ⟨w1.heap.size + 1, w1.heap.size, rfl, by have := hsz.out; omega, hsz.out, KK.out, HH.out⟩
end Go.Proofs.YtkkodhjolgcokaaDoor
/-
  A wheel, by its alarms: which are set, for when, and on which list each stands.
-/
namespace Go.Proofs.YtkkodhjolgcokaaDoor
open Go.RowKit Go.Lib
set_option linter.unusedVariables false

/-- The alarms that are set (S), the list of each (pl), and how a wheel's lists and counts tell it. -/
structure WInv (n : Nat) (A : Nat → Nat × Nat) (L : Nat → List Nat) (C : Nat → Nat) (S : Nat → Option (Nat × Nat)) (pl : Nat → Nat) : Prop where
  on : ∀ k v, k < n → S k = some v → A k = v ∧ pl k < 768 ∧ k ∈ L (pl k)
  is : ∀ i, i < 768 → ∀ k, k ∈ L i → k < n ∧ (∃ v, S k = some v) ∧ i = pl k
  nd : ∀ i, i < 768 → (L i).Nodup
  cnt : ∀ r, r < 12 → C r = (flatL L r 64).length

theorem flat_mem {L : Nat → List Nat} {r k : Nat} : ∀ j, k ∈ flatL L r j ↔ ∃ b, b < j ∧ k ∈ L (r * 64 + b)
  | 0 => by simp [flatL]
  | j + 1 => by
    simp only [flatL, List.mem_append]
    rw [flat_mem j]
    constructor
    · rintro (⟨b, hb, h⟩ | h)
      · exact ⟨b, by omega, h⟩
      · exact ⟨j, by omega, h⟩
    · rintro ⟨b, hb, h⟩
      by_cases e : b = j
      · subst e; exact Or.inr h
      · exact Or.inl ⟨b, by omega, h⟩

theorem WInv.flat_nodup {n : Nat} {A : Nat → Nat × Nat} {L : Nat → List Nat} {C : Nat → Nat} {S : Nat → Option (Nat × Nat)} {pl : Nat → Nat} (I : WInv n A L C S pl) {r : Nat} (hr : r < 12) : ∀ j, j ≤ 64 → (flatL L r j).Nodup
  | 0, _ => by simp [flatL]
  | j + 1, hj => by
    simp only [flatL]
    rw [List.nodup_append]
    refine ⟨I.flat_nodup hr j (by omega), I.nd _ (by omega), fun a ha b hb e => ?_⟩
    subst e
    obtain ⟨c, hc, hc2⟩ := (flat_mem j).1 ha
    have h1 := (I.is (r * 64 + c) (by omega) a hc2).2.2
    have h2 := (I.is (r * 64 + j) (by omega) a hb).2.2
    omega
theorem WInv.le {n : Nat} {A : Nat → Nat × Nat} {L : Nat → List Nat} {C : Nat → Nat} {S : Nat → Option (Nat × Nat)} {pl : Nat → Nat} (I : WInv n A L C S pl) {r : Nat} (hr : r < 12) : C r ≤ n := by
  rw [I.cnt r hr]
  refine few_of_nodup n _ (I.flat_nodup hr 64 (by omega)) (fun k hk => ?_)
  obtain ⟨b, hb, hkb⟩ := (flat_mem 64).1 hk
  exact (I.is _ (by omega) k hkb).1
/-- A row whose count is not nought has one at least; a list that has one, its row too. -/
theorem WInv.pos {n : Nat} {A : Nat → Nat × Nat} {L : Nat → List Nat} {C : Nat → Nat} {S : Nat → Option (Nat × Nat)} {pl : Nat → Nat} (I : WInv n A L C S pl) {i k : Nat} (hi : i < 768) (hk : k ∈ L i) : 1 ≤ C (i / 64) := by
  rw [I.cnt (i / 64) (by omega)]
  have : k ∈ flatL L (i / 64) 64 := (flat_mem 64).2 ⟨i % 64, by omega, by rw [show i / 64 * 64 + i % 64 = i by omega]; exact hk⟩
  exact List.length_pos_iff_exists_mem.2 ⟨k, this⟩

/-- How long a row's lists are together, where one of them has turned. -/
theorem flat_up {L : Nat → List Nat} (i r : Nat) (l : List Nat) : ∀ j, j ≤ 64 → (flatL (upL L i l) r j).length + (if i / 64 = r ∧ i % 64 < j then (L i).length else 0) = (flatL L r j).length + (if i / 64 = r ∧ i % 64 < j then l.length else 0)
  | 0, _ => by simp [flatL]
  | j + 1, hj => by
    have ih := flat_up (L := L) i r l j (by omega)
    simp only [flatL, List.length_append]
    by_cases h : i = r * 64 + j
    · have h1 : i / 64 = r := by omega
      have h2 : i % 64 = j := by omega
      rw [if_neg (by omega), if_neg (by omega)] at ih
      rw [if_pos (by omega), if_pos (by omega), ← h]
      have e : upL L i l i = l := by simp [upL]
      rw [e]; omega
    · have e : upL L i l (r * 64 + j) = L (r * 64 + j) := by unfold upL; rw [if_neg (fun x => h x.symm)]
      rw [e]
      by_cases h3 : i / 64 = r ∧ i % 64 < j
      · rw [if_pos h3, if_pos h3] at ih
        rw [if_pos (by omega), if_pos (by omega)]; omega
      · rw [if_neg h3, if_neg h3] at ih
        rw [if_neg (by omega), if_neg (by omega)]; omega

def upS (S : Nat → Option (Nat × Nat)) (k : Nat) (v : Option (Nat × Nat)) : Nat → Option (Nat × Nat) := fun i => if i = k then v else S i
def upP (pl : Nat → Nat) (k i : Nat) : Nat → Nat := fun j => if j = k then i else pl j

theorem WInv.set {n : Nat} {A : Nat → Nat × Nat} {L : Nat → List Nat} {C : Nat → Nat} {S : Nat → Option (Nat × Nat)} {pl : Nat → Nat} (I : WInv n A L C S pl) {k i : Nat} (v : Nat × Nat) (hk : k < n) (hS : S k = none) (hi : i < 768) :
    WInv n (upA A k v) (upL L i (L i ++ [k])) (upN C (i / 64) (C (i / 64) + 1)) (upS S k (some v)) (upP pl k i) := by
  have hno : ∀ j, j < 768 → k ∉ L j := fun j hj h => by obtain ⟨v', hv⟩ := (I.is j hj k h).2.1; rw [hS] at hv; cases hv
  have up1 : ∀ j, j ≠ i → upL L i (L i ++ [k]) j = L j := fun j hj => by unfold upL; rw [if_neg hj]
  have up2 : upL L i (L i ++ [k]) i = L i ++ [k] := by simp [upL]
  refine ⟨fun k' v' hk' hv' => ?_, fun j hj k' hk' => ?_, fun j hj => ?_, fun r hr => ?_⟩
  · by_cases e : k' = k
    · subst e
      simp only [upS, if_true] at hv'
      injection hv' with hv'
      subst hv'
      simp only [upA, upP, if_true]
      exact ⟨trivial, hi, by rw [up2]; simp⟩
    · simp only [upS, if_neg e] at hv'
      obtain ⟨h1, h2, h3⟩ := I.on k' v' hk' hv'
      simp only [upA, upP, if_neg e]
      refine ⟨h1, h2, ?_⟩
      by_cases e2 : pl k' = i
      · rw [e2, up2]; rw [e2] at h3; exact List.mem_append_left _ h3
      · rw [up1 _ e2]; exact h3
  · by_cases e : k' = k
    · subst e
      by_cases e2 : j = i
      · subst e2; exact ⟨hk, ⟨v, by simp [upS]⟩, by simp [upP]⟩
      · rw [up1 j e2] at hk'; exact absurd hk' (hno j hj)
    · have hk2 : k' ∈ L j := by
        by_cases e2 : j = i
        · subst e2; rw [up2] at hk'; rcases List.mem_append.1 hk' with h | h; exact h; simp at h; exact absurd h e
        · rw [up1 j e2] at hk'; exact hk'
      obtain ⟨h1, h2, h3⟩ := I.is j hj k' hk2
      exact ⟨h1, by simpa [upS, e] using h2, by simpa [upP, e] using h3⟩
  · by_cases e2 : j = i
    · subst e2
      rw [up2, List.nodup_append]
      exact ⟨I.nd j hj, by simp, fun a ha b hb e => by simp at hb; subst hb; subst e; exact hno j hj ha⟩
    · rw [up1 j e2]; exact I.nd j hj
  · have h1 := flat_up (L := L) i r (L i ++ [k]) 64 (by omega)
    have h2 := I.cnt r hr
    unfold upN
    by_cases e : r = i / 64
    · subst e
      rw [if_pos rfl]
      rw [if_pos (by omega), if_pos (by omega), List.length_append] at h1
      simp only [List.length_singleton] at h1
      omega
    · rw [if_neg e]
      rw [if_neg (by omega), if_neg (by omega)] at h1
      omega
theorem WInv.unset {n : Nat} {A : Nat → Nat × Nat} {L : Nat → List Nat} {C : Nat → Nat} {S : Nat → Option (Nat × Nat)} {pl : Nat → Nat} (I : WInv n A L C S pl) {k i : Nat} (hi : i < 768) (hk : k ∈ L i) :
    WInv n (upA A k (0, 0)) (upL L i ((L i).erase k)) (upN C (i / 64) (C (i / 64) - 1)) (upS S k none) pl := by
  have hpl := (I.is i hi k hk).2.2
  have up1 : ∀ j, j ≠ i → upL L i ((L i).erase k) j = L j := fun j hj => by unfold upL; rw [if_neg hj]
  have up2 : upL L i ((L i).erase k) i = (L i).erase k := by simp [upL]
  have hin : ∀ j, j < 768 → ∀ k', k' ∈ upL L i ((L i).erase k) j → k' ≠ k ∧ k' ∈ L j := fun j hj k' h => by
    by_cases e2 : j = i
    · subst e2
      rw [up2] at h
      have := (I.nd j hj).mem_erase_iff.1 h
      exact ⟨this.1, this.2⟩
    · rw [up1 j e2] at h
      refine ⟨fun e => ?_, h⟩
      subst e
      exact e2 ((I.is j hj k' h).2.2.trans hpl.symm)
  refine ⟨fun k' v' hk' hv' => ?_, fun j hj k' hk' => ?_, fun j hj => ?_, fun r hr => ?_⟩
  · by_cases e : k' = k
    · subst e; simp [upS] at hv'
    · simp only [upS, if_neg e] at hv'
      obtain ⟨h1, h2, h3⟩ := I.on k' v' hk' hv'
      simp only [upA, if_neg e]
      refine ⟨h1, h2, ?_⟩
      by_cases e2 : pl k' = i
      · rw [e2, up2]; rw [e2] at h3; exact (List.mem_erase_of_ne e).2 h3
      · rw [up1 _ e2]; exact h3
  · obtain ⟨hne, hm⟩ := hin j hj k' hk'
    obtain ⟨h1, h2, h3⟩ := I.is j hj k' hm
    exact ⟨h1, by simpa [upS, hne] using h2, h3⟩
  · by_cases e2 : j = i
    · subst e2; rw [up2]; exact (I.nd j hj).erase k
    · rw [up1 j e2]; exact I.nd j hj
  · have h1 := flat_up (L := L) i r ((L i).erase k) 64 (by omega)
    have h2 := I.cnt r hr
    have h3 := List.length_erase_of_mem hk
    have h4 := List.length_pos_iff_exists_mem.2 ⟨k, hk⟩
    unfold upN
    by_cases e : r = i / 64
    · subst e
      rw [if_pos rfl]
      rw [if_pos (by omega), if_pos (by omega)] at h1
      omega
    · rw [if_neg e]
      rw [if_neg (by omega), if_neg (by omega)] at h1
      omega
end Go.Proofs.YtkkodhjolgcokaaDoor
/-
  Contracts of package wheel, over this seat's translation: goOn.
-/
namespace Go.Proofs.YtkkodhjolgcokaaDoor
open Go.RowKit Go.Lib
set_option linter.unusedVariables false

/-- All that stands in the rows ahead of a row. -/
def rowsL (L : Nat → List Nat) : Nat → List Nat
  | 0 => []
  | r + 1 => rowsL L r ++ flatL L r 64

theorem rows_mem {L : Nat → List Nat} {k : Nat} : ∀ r, k ∈ rowsL L r ↔ ∃ i, i < r * 64 ∧ k ∈ L i
  | 0 => by simp [rowsL]
  | r + 1 => by
    simp only [rowsL, List.mem_append]
    rw [rows_mem r, flat_mem]
    constructor
    · rintro (⟨i, hi, h⟩ | ⟨b, hb, h⟩)
      · exact ⟨i, by omega, h⟩
      · exact ⟨r * 64 + b, by omega, h⟩
    · rintro ⟨i, hi, h⟩
      by_cases e : i < r * 64
      · exact Or.inl ⟨i, e, h⟩
      · exact Or.inr ⟨i - r * 64, by omega, by rw [show r * 64 + (i - r * 64) = i by omega]; exact h⟩

/-- upTo, whether the row has any or not. -/
theorem wupTo_any {w : World} {wb ab lb n now : Nat} {A : Nat → Nat × Nat} {L : Nat → List Nat} {C : Nat → Nat} {S : Nat → Option (Nat × Nat)} {pl : Nat → Nat} (r b : Nat) (H : WhMem w wb ab lb n now A L C) (I : WInv n A L C S pl) (hn : n ≤ 4096) (hr : r < 12) (hb : b < 64) :
    Calls Tryd.prog 69 #[.pointer (some ⟨wb, 0, none⟩), .int .i64 r, .int .i64 b] w fun e w' => ∃ v, e = .returned v ∧ w.grownBy w' none ∧ SrcAt w' 1 v (flatL L r (b + 1)).length (ints (flatL L r (b + 1))) := by
  rcases Nat.eq_zero_or_pos (C r) with h0 | h0
  · have hf : flatL L r (b + 1) = [] := by
      have h1 := I.cnt r hr
      rw [h0] at h1
      have h2 : flatL L r 64 = [] := List.length_eq_zero_iff.1 h1.symm
      rcases hq : flatL L r (b + 1) with _ | ⟨x, l⟩
      · rfl
      · have hx : x ∈ flatL L r (b + 1) := by rw [hq]; simp
        obtain ⟨c, hc, hxc⟩ := (flat_mem (b + 1)).1 hx
        have : x ∈ flatL L r 64 := (flat_mem 64).2 ⟨c, by omega, hxc⟩
        rw [h2] at this; cases this
    refine (wupTo_none r (b : Int) H hr h0).mono fun e w' ⟨he, hw⟩ => ⟨_, he, ?_, ?_⟩
    · subst hw; exact World.grownBy.refl _ _
    · rw [hf]; exact Or.inr ⟨0, rfl, rfl, rfl⟩
  · have hc := I.le hr
    refine (wupTo_some r b H hr hb h0 (by omega) (fun j hj => ?_)).mono fun e w' ⟨q, cp, he, hg, hR⟩ => ⟨_, he, hg, Or.inl ⟨⟨q, 0, none⟩, cp, rfl, by simp [ints], World.ownsRow.cells hR rfl, ints_one _⟩⟩
    have := H.links.few (r * 64 + j) (by omega)
    omega

section
variable {w : World} {wb ab lb n now : Nat} {A : Nat → Nat × Nat} {L : Nat → List Nat} {C : Nat → Nat} {S : Nat → Option (Nat × Nat)} {pl : Nat → Nat}
theorem WInv.rows_len (I : WInv n A L C S pl) : ∀ r, r ≤ 12 → (rowsL L r).length ≤ r * n
  | 0, _ => by simp [rowsL]
  | r + 1, hr => by
    have h1 := I.rows_len r (by omega)
    have h2 := I.cnt r (by omega)
    have h3 := I.le (r := r) (by omega)
    simp only [rowsL, List.length_append, Nat.add_mul]
    omega
theorem WInv.flat_le (I : WInv n A L C S pl) {r : Nat} (hr : r < 12) (j : Nat) (hj : j ≤ 64) : (flatL L r j).length ≤ n := by
  refine few_of_nodup n _ (I.flat_nodup hr j hj) (fun k hk => ?_)
  obtain ⟨b, hb, hkb⟩ := (flat_mem j).1 hk
  exact (I.is _ (by omega) k hkb).1
end
end Go.Proofs.YtkkodhjolgcokaaDoor
/-
  Contracts of package wheel, over this seat's translation: goOn lets it be a later time.
-/
namespace Go.Proofs.YtkkodhjolgcokaaDoor
open Go.RowKit Go.Lib
set_option maxRecDepth 100000
set_option linter.unusedVariables false

theorem own_grow {W w w' : World} {v : Value} {m : Nat} {xs : List Value} (K : W.grownBy w none) (own : w.ownsRow W.heap.size 3 1 v m xs) (gr : w.grownBy w' v.ownBlock) : W.grownBy w' none := by
  cases hv : v.ownBlock with
  | none => rw [hv] at gr; exact K.trans gr
  | some g => rw [hv] at gr; exact Only.on K (Only.of_some gr (Nat.le_refl _) (Nat.lt_succ_self _)) (World.ownsRow.lt own g hv).1

theorem own_form {w : World} {B : Nat} {v : Value} {F : List Nat} (h : w.ownsRow B 3 1 v F.length (ints F)) : ∃ sa cp, v = .slice sa F.length cp ∧ (0 < F.length → ∃ q, sa = some ⟨q, 0, none⟩ ∧ B ≤ q) := by
  rcases h.2 with ⟨hv, h0⟩ | ⟨q, cp, cur, hv, hb, _⟩
  · exact ⟨none, 0, by rw [hv, h0], fun h => absurd h (by omega)⟩
  · exact ⟨_, cp, hv, fun _ => ⟨q, rfl, hb⟩⟩
theorem own_only2 {W w w' : World} {lo hi m : Nat} {v : Value} {xs : List Value} (h : w.ownsRow W.heap.size 3 1 v m xs) (k : Only lo hi w w') (hh : hi ≤ W.heap.size) : w'.ownsRow W.heap.size 3 1 v m xs := by
  refine ⟨h.1, ?_⟩
  rcases h.2 with hn | ⟨g, cap, cur, rfl, hb, hgg, rest⟩
  · exact .inl hn
  · refine .inr ⟨g, cap, cur, rfl, hb, ?_, rest⟩
    rw [k.block g (Array.getElem?_eq_some_iff.1 hgg).1 (Or.inr (by omega))]
    exact hgg
theorem WhMem.setNow {w : World} {wb ab lb n now : Nat} {A : Nat → Nat × Nat} {L : Nat → List Nat} {C : Nat → Nat} (H : WhMem w wb ab lb n now A L C) (tg : Nat) (ht : tg < 18446744073709551616) : WhMem (w.setCell ⟨wb, 0, none⟩ (.int .u64 (tg : Nat))) wb ab lb n tg A L C := by
  have k := Only.set (lo := wb) (hi := wb + 1) w ⟨wb, 0, none⟩ (.int .u64 (tg : Nat)) (Nat.le_refl _) (Nat.lt_succ_self _)
  have fr : ∀ a, (w.setCell ⟨wb, 0, none⟩ (.int .u64 (tg : Nat))).frozen? a = w.frozen? a := fun a => World.frozen?_setCell ..
  have hd := H.d
  have ot : ∀ j, j ≠ 0 → (w.setCell ⟨wb, 0, none⟩ (.int .u64 (tg : Nat))).cell? ⟨wb, j, none⟩ = w.cell? ⟨wb, j, none⟩ := fun j hj => set_farW w wb 0 wb j _ (Or.inr hj)
  refine ⟨World.cell?_setCell_same _ _ _ H.c0, (ot 1 (by omega)).trans H.c1, (ot 2 (by omega)).trans H.c2, fun r hr => (ot (3 + r) (by omega)).trans (H.c3 r hr), fun j => (fr _).trans (H.fw j), fun k' hk' => ?_, fun j => (fr _).trans (H.fa j), H.links.kept k (by omega), ⟨ht, H.bd.2⟩, H.d, ?_⟩
  · obtain ⟨h1, h2⟩ := H.a0 k' hk'
    exact ⟨(set_farW w wb 0 ab _ _ (Or.inl (by omega))).trans h1, (set_farW w wb 0 ab _ _ (Or.inl (by omega))).trans h2⟩
  · have := k.size
    exact ⟨Nat.lt_of_lt_of_le H.l.1 this, Nat.lt_of_lt_of_le H.l.2 this⟩

theorem WInv.lt {n : Nat} {A : Nat → Nat × Nat} {L : Nat → List Nat} {C : Nat → Nat} {S : Nat → Option (Nat × Nat)} {pl : Nat → Nat} (I : WInv n A L C S pl) {k r : Nat} (hk : k < n) (hS : S k = none) (hr : r < 12) : C r < n := by
  rw [I.cnt r hr]
  have h := few_of_nodup n (k :: flatL L r 64) (by
    rw [List.nodup_cons]
    refine ⟨fun h => ?_, I.flat_nodup hr 64 (by omega)⟩
    obtain ⟨b, hb, hkb⟩ := (flat_mem 64).1 h
    obtain ⟨v, hv⟩ := (I.is _ (by omega) k hkb).2.1
    rw [hS] at hv; cases hv) (fun x hx => by
    rcases List.mem_cons.1 hx with rfl | hx
    · exact hk
    · obtain ⟨b, hb, hkb⟩ := (flat_mem 64).1 hx
      exact (I.is _ (by omega) x hkb).1)
  simp only [List.length_cons] at h
  omega

section
variable {w : World} {wb ab lb n now : Nat} {A : Nat → Nat × Nat} {L : Nat → List Nat} {C : Nat → Nat} {S : Nat → Option (Nat × Nat)} {pl : Nat → Nat}

set_option maxHeartbeats 8000000 in
set_option maxRecDepth 100000 in
theorem wgoOn (tg lo hi : Nat) (H : WhMem w wb ab lb n now A L C) (I : WInv n A L C S pl) (hn : n ≤ 4096) (htg : tg < 18446744073709551616) (hlt : now < tg) (hpl : ∀ k v, k < n → S k = some v → pl k = slotN now v.1)
    (hlo : lo ≤ wb ∧ lo ≤ ab ∧ lo ≤ lb) (hhi : wb < hi ∧ ab < hi ∧ lb + 5 ≤ hi) (hhw : hi ≤ w.heap.size) :
    Calls Tryd.prog 46 #[.pointer (some ⟨wb, 0, none⟩), .int .u64 (tg : Nat)] w fun e w' => (∃ v, e = .returned v) ∧ Only lo hi w w' ∧ ∃ A' L' C' pl', WhMem w' wb ab lb n tg A' L' C' ∧ WInv n A' L' C' S pl' ∧ ∀ k v, k < n → S k = some v → pl' k = slotN tg v.1 := by
  have hnow := H.bd.1
  have hb64 := bitLen64 htg hnow
  have CR := Lib.hid (rowOf_any wb now tg w H.c0 htg hnow hb64)
  obtain ⟨top, htop⟩ : ∃ top, rowN now tg = top := ⟨_, rfl⟩
  have htl : top ≤ 11 := by rw [← htop]; exact rowN_le now tg htg hnow hb64
  have CU := Lib.hid (fun (v : World) (hv : w.grownBy v none) (r b : Nat) (hr : r < 12) (hb : b < 64) => wupTo_any r b (H.kept hv) I hn hr hb)
  have CD := Lib.hid (fun v => digit_any top tg v htl htg)
  obtain ⟨dg, hdg⟩ : ∃ dg, digN top tg = dg := ⟨_, rfl⟩
  have hdl : dg < 64 := by rw [← hdg]; exact digN_lt top tg
  rw [htop] at CR
  rw [hdg] at CD
  have HH := Lib.hid H
  have HI := Lib.hid I
  have HTOP := Lib.hid htop
  have HDG := Lib.hid hdg
  have HPL := Lib.hid hpl
  have HLT := Lib.hid hlt
  obtain ⟨i0, hi0, hz0, hz1, hz2⟩ := int_info
  have I0 := Lib.hid hi0
  have I1 := Lib.hid hz0
  have I2 := Lib.hid hz1
  have I3 := Lib.hid hz2
  clear H I htop hdg hpl hi0 hz0 hz1 hz2 hb64 hlt
  go_enter Tryd.func46, Tryd.ntmps46
  go_wp2_with fail
  refine CR.out.mono ?_
  rintro e w' ⟨rfl, rfl⟩
  clear CR
  go_wp2
  go_loopw [5, 14] (fun pv it wr => ∃ (j : Nat), j ≤ top ∧ it = .int .i64 j ∧ Hid (wr.ownsRow w.heap.size 3 1 pv (rowsL L j).length (ints (rowsL L j))) ∧ Hid (w.grownBy wr none)) (fun pv it _ => top - (Go.RowKit.intOf it).toNat)
  case atStart => exact ⟨0, Nat.zero_le _, rfl, Lib.hid ⟨rfl, Or.inl ⟨rfl, rfl⟩⟩, Lib.hid (World.grownBy.refl _ _)⟩
  case round =>
    obtain ⟨j, hj, rfl, OW, KR⟩ := hrel
    generalize u5 = v at *
    have hrl := HI.out.rows_len j (by omega)
    have hjn : j * n ≤ 12 * 4096 := Nat.mul_le_mul (by omega) hn
    by_cases hjt : j < top
    · have C1 := Lib.hid (CU.out wr KR.out j 63 (by omega) (by omega))
      have hfl := HI.out.flat_le (r := j) (by omega) 64 (Nat.le_refl _)
      have hrs : Hid (rowsL L (j + 1) = rowsL L j ++ flatL L j 64) := Lib.hid rfl
      have hj100 : (j : Int) < 100 := by omega
      generalize rowsL L j = F at *
      generalize hG : flatL L j 64 = G at *
      have C1' : Hid (Calls Tryd.prog 69 #[.pointer (some ⟨wb, 0, none⟩), .int .i64 (j : Nat), .int .i64 63] wr fun e w' => ∃ v, e = .returned v ∧ wr.grownBy w' none ∧ SrcAt w' 1 v G.length (ints G)) := Lib.hid (by have := C1.out; simpa [hG] using this)
      clear C1 hG
      go_wp2_with fail
      refine C1'.out.mono ?_
      rintro e w2 ⟨sv, rfl, k2, SR⟩
      have OW2 := Lib.hid (World.ownsRow.kept OW.out k2 (by cases hv : v.ownBlock <;> simp))
      have KR2 := Lib.hid (KR.out.trans k2)
      have SR2 := Lib.hid SR
      clear C1' k2 SR OW KR
      go_wp2_with (
        at_builtin
        refine wpList_append_src w2 rfl _ _ 30 rfl w.heap.size 3 i0 (.int .i64 0) 1 8 Tryd.underlying30 I0.out I1.out I2.out I3.out rfl (by decide) v F.length (ints F) rfl OW2.out sv G.length (ints G) rfl SR2.out (by unfold maxLen; omega) (by omega) (by have := KR2.out.size; exact this) ?_
        intro v3 w3 own3 gr3 nil3 at3
        have gr3' : w2.grownBy w3 v.ownBlock := gr3
        have KR3 := Lib.hid (own_grow KR2.out OW2.out gr3')
        have OW3 : Hid (w3.ownsRow w.heap.size 3 1 v3 (rowsL L (j + 1)).length (ints (rowsL L (j + 1)))) := Lib.hid (by rw [hrs.out, List.length_append, ← ints_add]; exact own3)
        clear own3 gr3 nil3 at3 gr3' OW2 SR2 KR2)
      go_roundw
      case rel => exact ⟨j + 1, by omega, by go_num, OW3, KR3⟩
      case measure => simp [Go.RowKit.intOf]; omega
    · obtain rfl : j = top := by omega
      have C1 := Lib.hid (CU.out wr KR.out j dg (by omega) hdl)
      have hfl := HI.out.flat_le (r := j) (by omega) (dg + 1) (by omega)
      obtain ⟨F, hF⟩ : ∃ F, rowsL L j ++ flatL L j (dg + 1) = F := ⟨_, rfl⟩
      have HF := Lib.hid hF
      have HFL : Hid (F.length ≤ 100000 - 1) := Lib.hid (by rw [← hF, List.length_append]; omega)
      clear hjt CU
      go_wp2_with fail
      refine (CD.out _).mono ?_
      rintro e w' ⟨rfl, rfl⟩
      go_wp2_with fail
      refine C1.out.mono ?_
      rintro e w2 ⟨sv, rfl, k2, SR⟩
      have OW2 := Lib.hid (World.ownsRow.kept OW.out k2 (by cases hv : v.ownBlock <;> simp))
      have KR2 := Lib.hid (KR.out.trans k2)
      have SR2 := Lib.hid SR
      clear C1 CD k2 SR OW KR hF
      have HF2 : Hid (rowsL L j ++ flatL L j (dg + 1) = F) := Lib.hid HF.out
      obtain ⟨F1, hF1⟩ : ∃ F1, rowsL L j = F1 := ⟨_, rfl⟩
      obtain ⟨G, hG⟩ : ∃ G, flatL L j (dg + 1) = G := ⟨_, rfl⟩
      rw [hF1] at OW2 HF hrl
      rw [hG] at SR2 HF hfl
      clear hF1 hG
      have W5 := Lib.hid (fun (v : World) (hv : w.grownBy v none) => (HH.out.kept hv).c0)
      have W5f := Lib.hid (fun (v : World) (hv : w.grownBy v none) => (HH.out.kept hv).fw 0)
      go_wp2_with (
        at_builtin
        refine wpList_append_src w2 rfl _ _ 30 rfl w.heap.size 3 i0 (.int .i64 0) 1 8 Tryd.underlying30 I0.out I1.out I2.out I3.out rfl (by decide) v F1.length (ints F1) rfl OW2.out sv G.length (ints G) rfl SR2.out (by unfold maxLen; omega) (by omega) (by have := KR2.out.size; exact this) ?_
        intro v3 w3 own3 gr3 nil3 at3
        have gr3' : w2.grownBy w3 v.ownBlock := gr3
        have KR3 := Lib.hid (own_grow KR2.out OW2.out gr3')
        have OW3 : Hid (w3.ownsRow w.heap.size 3 1 v3 F.length (ints F)) := Lib.hid (by rw [← HF.out, List.length_append, ← ints_add]; exact own3)
        have n0 := W5.out w3 KR3.out
        have nf := W5f.out w3 KR3.out
        obtain ⟨sa, cp3, rfl, hsa⟩ := own_form OW3.out
        clear own3 gr3 nil3 at3 gr3' OW2 SR2 KR2)
      have M4 := Lib.hid ((HH.out.kept KR3.out).setNow tg htg)
      have O4 := Lib.hid ((Only.of_none (lo := lo) (hi := hi) KR3.out).trans (Only.set w3 ⟨wb, 0, none⟩ (.int .u64 (tg : Nat)) hlo.1 hhi.1))
      have OW4 := Lib.hid (own_only2 OW3.out (Only.set (lo := lo) (hi := hi) w3 ⟨wb, 0, none⟩ (.int .u64 (tg : Nat)) hlo.1 hhi.1) hhw)
      generalize w3.setCell ⟨wb, 0, none⟩ (.int .u64 (tg : Nat)) = w4 at *
      clear OW3 KR3 n0 nf
      go_loopw [37] (fun it wr => ∃ (x : Nat) (Ax : Nat → Nat × Nat) (Lx : Nat → List Nat) (Cx plx : Nat → Nat), x ≤ F.length ∧ it = .int .i64 x ∧ Hid (WhMem wr wb ab lb n tg Ax Lx Cx) ∧ Hid (WInv n Ax Lx Cx S plx) ∧ Hid (Only lo hi w wr) ∧ Hid (wr.ownsRow w.heap.size 3 1 (.slice sa F.length cp3) F.length (ints F)) ∧ Hid (∀ k v, k < n → S k = some v → (k ∈ F.take x → plx k = slotN tg v.1) ∧ (k ∉ F.take x → plx k = pl k))) (fun it _ => F.length - (Go.RowKit.intOf it).toNat)
      case atStart => exact ⟨0, A, L, C, pl, Nat.zero_le _, rfl, M4, HI, O4, OW4, Lib.hid fun k v _ _ => ⟨fun h => by simp at h, fun _ => rfl⟩⟩
      case round =>
        obtain ⟨x, Ax, Lx, Cx, plx, hx, rfl, MX, IX, OX, RX, PX⟩ := hrel
        clear M4 O4 OW4
        by_cases hxl : x < F.length
        · obtain ⟨q, rfl, hqB⟩ := hsa (by omega)
          obtain ⟨k, hk⟩ : ∃ k, F[x] = k := ⟨_, rfl⟩
          have d0 : wr.cell? ⟨q, x, none⟩ = some (.int .i64 (k : Nat)) := by rw [← hk]; exact RowOf.cell (B := w.heap.size) RX.out x hxl
          have hkF : k ∈ F := by rw [← hk]; exact List.getElem_mem hxl
          have hkL : ∃ i, i < 768 ∧ k ∈ L i := by
            rw [← HF2.out] at hkF
            rcases List.mem_append.1 hkF with h | h
            · obtain ⟨i, hi, h⟩ := (rows_mem j).1 h; exact ⟨i, by omega, h⟩
            · obtain ⟨b, hb, h⟩ := (flat_mem (dg + 1)).1 h; exact ⟨_, by omega, h⟩
          obtain ⟨i, hi768, hkL⟩ := hkL
          obtain ⟨hkn, ⟨⟨at_, tu⟩, hSk⟩, -⟩ := HI.out.is i hi768 k hkL
          obtain ⟨hA, hp768, hkx⟩ := IX.out.on k _ hkn hSk
          have hbd := MX.out.bd.2 k hkn
          obtain ⟨e0, e1⟩ := MX.out.a0 k hkn
          rw [hA] at hbd e0 e1
          have c1 := MX.out.c1
          have kb := World.grownBy_alloc wr (.cells #[.int .u64 (at_ : Nat), .int .u64 (tu : Nat)] 79) none
          have MB := MX.out.kept kb
          have hC1 := IX.out.pos hp768 hkx
          have hC2 := IX.out.le (r := plx k / 64) (by omega)
          have CU1 := Lib.hid (wunset_ok k (plx k) lo hi MB hp768 hkx ⟨hC1, by omega⟩ hlo hhi)
          have IU := IX.out.unset hp768 hkx
          have hnow2 := MX.out.bd.1
          have hb64 := bitLen64 hbd.1 hnow2
          have hrl := rowN_le tg at_ hbd.1 hnow2 hb64
          have hsl := slotN_lt hrl
          have hdv : slotN tg at_ / 64 = rowN tg at_ := by unfold slotN; have := digN_lt (rowN tg at_) at_; omega
          have hno : ∀ jj, jj < 768 → k ∉ upL Lx (plx k) ((Lx (plx k)).erase k) jj := fun jj hjj h => by obtain ⟨v', hv'⟩ := (IU.is jj hjj k h).2.1; simp [upS] at hv'
          have hCs := IU.lt hkn (by simp [upS]) (r := rowN tg at_) (by omega)
          have IS := IU.set (k := k) (i := slotN tg at_) (at_, tu) hkn (by simp [upS]) hsl
          rw [hdv] at IS
          have hSS : upS (upS S k none) k (some (at_, tu)) = S := by
            funext y; by_cases e : y = k
            · subst e; simp [upS, hSk]
            · simp [upS, e]
          rw [hSS] at IS
          have CS1 : Hid (∀ v : World, WhMem v wb ab lb n tg (upA Ax k (0, 0)) (upL Lx (plx k) ((Lx (plx k)).erase k)) (upN Cx (plx k / 64) (Cx (plx k / 64) - 1)) → _) := Lib.hid fun v hv => wset_ok k at_ tu lo hi hv hbd.1 hbd.2 hb64 hkn hno (Nat.lt_of_lt_of_le hCs hn) hlo hhi
          have hsz : hi ≤ wr.heap.size := Nat.le_trans hhw OX.out.size
          have bx0 : (wr.alloc (.cells #[.int .u64 (at_ : Int), .int .u64 (tu : Int)] 79)).cell? ⟨wr.heap.size, 0, none⟩ = some (.int .u64 (at_ : Int)) := by simp
          have bx1 : (wr.alloc (.cells #[.int .u64 (at_ : Int), .int .u64 (tu : Int)] 79)).cell? ⟨wr.heap.size, 1, none⟩ = some (.int .u64 (tu : Int)) := by simp
          have hszb : wr.heap.size < (wr.alloc (.cells #[.int .u64 (at_ : Int), .int .u64 (tu : Int)] 79)).heap.size := by simp
          have ISH := Lib.hid IS
          have OB := Lib.hid (OX.out.into kb)
          have RB := Lib.hid (own_only2 RX.out (Only.of_none (lo := lo) (hi := hi) kb) hhw)
          have kn1 : (k : Int) < (n : Int) := by omega
          have HKX : Hid (F[x] = k) := Lib.hid hk
          have HXL : Hid (x < F.length) := Lib.hid hxl
          have HSK := Lib.hid hSk
          have xl : (x : Int) < (F.length : Int) := by omega
          have hx1 : (x : Int) < 100000 := by have := HFL.out; omega
          clear hA hkx IS IU hno hCs hSS hdv hsl hrl hb64 hC1 hC2 MB kb hk hkF hkL hSk hbd hp768 hnow2 HI MX IX
          go_wp2_with fail
          refine CU1.out.mono ?_
          rintro e w6 ⟨rfl, O6, M6⟩
          have b0 := (O6.cell ⟨wr.heap.size, 0, none⟩ hszb (Or.inr hsz)).trans bx0
          have b1 := (O6.cell ⟨wr.heap.size, 1, none⟩ hszb (Or.inr hsz)).trans bx1
          have CS2 := Lib.hid (CS1.out _ M6)
          have O6H := Lib.hid O6
          clear CU1 CS1 O6 M6 bx0 bx1
          go_wp2_with fail
          refine CS2.out.mono ?_
          rintro e w7 ⟨rfl, O7, M7⟩
          have M7H := Lib.hid M7
          have O7H := Lib.hid (OB.out.trans (O6H.out.trans O7))
          have R7H := Lib.hid (own_only2 (own_only2 RB.out O6H.out hhw) O7 hhw)
          clear CS2 M7 O7 b0 b1 OB O6H RB
          go_wp2
          go_roundw
          case rel =>
            refine ⟨x + 1, _, _, _, _, HXL.out, by go_num, M7H, ISH, O7H, R7H, Lib.hid fun k' v' hk' hv' => ?_⟩
            have htk : F.take (x + 1) = F.take x ++ [k] := by rw [← HKX.out]; exact (List.take_append_getElem HXL.out).symm
            have old := PX.out k' v' hk' hv'
            rw [htk]
            by_cases e : k' = k
            · subst e
              have hvv : v' = (at_, tu) := by have h1 := HSK.out; rw [hv'] at h1; injection h1
              subst hvv
              exact ⟨fun _ => by simp [upP], fun h => absurd (List.mem_append_right _ (by simp)) h⟩
            · have hup : upP plx k (slotN tg at_) k' = plx k' := by simp [upP, e]
              rw [hup]
              exact ⟨fun h => old.1 (by rcases List.mem_append.1 h with h | h; exact h; simp at h; exact absurd h e), fun h => old.2 (fun h2 => h (List.mem_append_left _ h2))⟩
          case measure => have := HXL.out; simp [Go.RowKit.intOf]; omega
        · obtain rfl : x = F.length := by omega
          clear hxl
          go_wp2
          refine ⟨rfl, .tuple #[], results_none rfl _ _ _, ⟨_, rfl⟩, OX.out, Ax, Lx, Cx, plx, MX.out, IX.out, fun k v hk hv => ?_⟩
          have old := PX.out k v hk hv
          rw [List.take_length] at old
          by_cases hF : k ∈ F
          · exact old.1 hF
          · rw [old.2 hF, HPL.out k v hk hv]
            obtain ⟨hA, hp, hkl⟩ := HI.out.on k v hk hv
            have hb := HH.out.bd.2 k hk
            rw [hA] at hb
            rw [HPL.out k v hk hv] at hkl hp
            rw [← HF2.out, List.mem_append, rows_mem, flat_mem] at hF
            have h1 : ¬ slotN now v.1 < j * 64 := fun h => hF (Or.inl ⟨_, h, hkl⟩)
            have hdl2 := digN_lt (rowN now v.1) v.1
            have hsd : slotN now v.1 = rowN now v.1 * 64 + digN (rowN now v.1) v.1 := rfl
            have h2 : ¬ (rowN now v.1 = j ∧ digN (rowN now v.1) v.1 < dg + 1) := fun h => hF (Or.inr ⟨digN (rowN now v.1) v.1, h.2, by rw [← h.1, ← hsd]; exact hkl⟩)
            have hj0 : j ≠ 0 := fun e => by have := (row_zero htg hnow).1 (HTOP.out.trans e); have := HLT.out; omega
            have hlt2 : now < v.1 := by
              rcases Nat.lt_or_ge now v.1 with h | h
              · exact h
              · have := (row_zero hb.1 hnow).2 h; omega
            exact (slotN_stays hb.1 htg HLT.out hlt2 (by rw [HTOP.out, HDG.out]; omega)).symm
end
end Go.Proofs.YtkkodhjolgcokaaDoor
/-
  Contracts of package wheel, over this seat's translation: least.
-/
namespace Go.Proofs.YtkkodhjolgcokaaDoor
open Go.RowKit Go.Lib
set_option linter.unusedVariables false

/-- The least time of the first so many of some alarms. -/
def minT (A : Nat → Nat × Nat) (F : List Nat) : Nat → Nat
  | 0 => (A (F.getD 0 0)).1
  | j + 1 => min (minT A F j) (A (F.getD (j + 1) 0)).1

section
variable {w : World} {wb ab lb n now : Nat} {A : Nat → Nat × Nat} {L : Nat → List Nat} {C : Nat → Nat}

end
end Go.Proofs.YtkkodhjolgcokaaDoor
/-
  Contracts of package wheel, over this seat's translation: First.
-/
namespace Go.Proofs.YtkkodhjolgcokaaDoor
open Go.RowKit Go.Lib
set_option linter.unusedVariables false

section
variable {w : World} {wb ab lb n now : Nat} {A : Nat → Nat × Nat} {L : Nat → List Nat} {C : Nat → Nat} {S : Nat → Option (Nat × Nat)} {pl : Nat → Nat}

theorem WInv.row_none (I : WInv n A L C S pl) {r : Nat} (hr : r < 12) (h0 : C r = 0) : ∀ i, r * 64 ≤ i → i < r * 64 + 64 → L i = [] := fun i h1 h2 => by
  have h3 := I.cnt r hr
  rw [h0] at h3
  have h4 : flatL L r 64 = [] := List.length_eq_zero_iff.1 h3.symm
  rcases hq : L i with _ | ⟨x, l⟩
  · rfl
  · have : x ∈ flatL L r 64 := (flat_mem 64).2 ⟨i - r * 64, by omega, by rw [show r * 64 + (i - r * 64) = i by omega, hq]; simp⟩
    rw [h4] at this; cases this

end
end Go.Proofs.YtkkodhjolgcokaaDoor
