/-
  A plan's 'find': the k-th slot of a tenant from a time on.
-/
import Derived.Test.YtacdmolkagcafaaPlanA
import Derived.Deep.RegionHeld3
import Derived.StillTail
import Derived.Deep.QuietTactic
namespace Go.Proofs.Ytacdmolkagcafaa
open Go.RowKit Go.Lib
set_option maxRecDepth 100000
set_option linter.unusedVariables false

theorem PlV.range {a : Array Value} (w : World) (t : TypeId) : (w.alloc (.cells a t)).rangeAt w.heap.size 0 a.toList := fun j v hv => by
  rw [Nat.zero_add]
  exact PlV.cell w t (by simpa using hv)

theorem plan_info : (Try.prog.info? 29).map (·.size) = some 130 := by kernel_rfl

/-- A whole plan out of its box. -/
theorem load_plan {rest : List Oper} {ops : Array Oper} {dst : Option Nat} {tt : TypeId} {ps : String} {af : Array Edge} {x : Operand} {f : Act} {w : World} {Q : Exit → Act → World → Prop} (b : Nat) (a : Array Value) (hr : w.rangeAt b 0 a.toList) (hs : a.size = 130)
    (hx : f.eval x = .pointer (some ⟨b, 0, none⟩)) (hyp : wpList Try.prog ops Q rest (f.put dst (.agg a)) w) :
    wpList Try.prog ops Q ({ dst := dst, op := .load 29 x, type := tt, pos := ps, after := af, guard := none } :: rest) f w := by
  refine wpList_load_mid rfl 29 x rfl b 0 hx a.toList _ hr Try.underlying29 rfl (by rw [plan_info]; simp [hs]) ?_
  simpa using hyp

theorem still_plan {rest : List Oper} {ops : Array Oper} {dst : Option Nat} {tt : TypeId} {ps : String} {af : Array Edge} {x : Operand} {f : Act} {w : World} {Q : Act → Prop} (b : Nat) (a : Array Value) (hr : w.rangeAt b 0 a.toList) (hs : a.size = 130)
    (hx : f.eval x = .pointer (some ⟨b, 0, none⟩)) (hyp : wpStill Try.prog ops w Q rest (f.put dst (.agg a))) :
    wpStill Try.prog ops w Q ({ dst := dst, op := .load 29 x, type := tt, pos := ps, after := af, guard := none } :: rest) f := by
  refine wpStill_step fun K hK => ?_
  have hw : Region.wanted { dst := dst, op := .load 29 x, type := tt, pos := ps, after := af, guard := none } (yielded ops f.tmps) = true := rfl
  rw [if_pos hw]
  unfold Oper.still execOp
  simp only [hx, Instr.loadAt, Instr.sureAddr, Sem.run_bind, Sem.run_pure, Result.andThen_ok, run_loadVar_mid w b 0 29 a.toList _ hr Try.underlying29 rfl (by rw [plan_info]; simp [hs]), Oper.stillUpon_value]
  exact hK _ (by simpa using hyp)

set_option maxHeartbeats 1000000 in
theorem find_few {a : Array Value} {O : Nat → Int} {L : Nat → Nat} {n C : Nat} (h : PlV a O L n C) (who k : Int) (t : Nat) (hk : k < 1 ∨ ownN O n who n = 0) (w : World) :
    Calls Try.prog 21 #[.agg a, .int .i64 who, .int .u64 t, .int .i64 k] w fun e w' => e = .returned (.tuple #[.int .u64 0, .int .u64 0, .bool false]) ∧ w.grownBy w' none := by
  have hs := h.size
  have k0 := Lib.hid (World.grownBy_alloc w (.cells a 29) none)
  have hr := Lib.hid (PlV.range (a := a) w 29)
  have hl : a.toList.length = 130 := by simpa using hs
  have HS := Lib.hid (slotsOf_any h who (w.alloc (.cells a 29)))
  clear h hl
  go_enter Try.func21, Try.ntmps21
  go_wp2_with (refine load_plan w.heap.size a hr.out hs rfl ?_)
  refine HS.out.mono ?_
  rintro e w1 ⟨rfl, k1⟩
  have k2 := Lib.hid (k0.out.trans k1)
  clear HS hr k0 k1
  by_cases h1 : k < 1
  · clear hk
    go_wp2
    go_ret3
    exact ⟨rfl, k2.out⟩
  · have h0 : ownN O n who n = 0 := by rcases hk with h | h; exact absurd h h1; exact h
    rw [h0]
    clear hk
    go_wp2
    go_ret3
    exact ⟨rfl, k2.out⟩

set_option maxHeartbeats 4000000 in
theorem find_at {a : Array Value} {O : Nat → Int} {L : Nat → Nat} {n C : Nat} (h : PlV a O L n C) {who : Int} {P E m : Nat → Nat} (T : TurnsOf O L n who P E m) (k t : Nat) (hk : k + 1 < 9223372036854775808) (ht : t < 18446744073709551616) (w : World) (R : Array Value) (hR : R = if E (m t + k) < 18446744073709551616 then #[.int .u64 (P (m t + k) : Nat), .int .u64 (E (m t + k) : Nat), .bool true] else #[.int .u64 0, .int .u64 0, .bool false]) :
    Calls Try.prog 21 #[.agg a, .int .i64 who, .int .u64 t, .int .i64 ((k + 1 : Nat) : Int)] w fun e w' => e = .returned (.tuple R) ∧ w.grownBy w' none := by
  obtain ⟨each, he⟩ : ∃ each, ownN O n who n = each := ⟨_, rfl⟩
  have hT := T.t
  rw [he, ← h.hC] at hT
  have he0 := hT.pos
  have hC0 : 0 < C := by have := hT.low 0 he0; omega
  have hCl : C ≤ 64000 := by rw [h.hC]; exact h.low n (Nat.le_refl _)
  have hel : each ≤ 64 := by
    rw [← he]
    have := sumN_le (fun j => if O (j % n) = who then 1 else 0) 1 n (fun i _ => by split <;> omega)
    have := h.hn
    unfold ownN; omega
  obtain ⟨sp1, sp2⟩ := hT.split t k
  obtain ⟨len, hlen, hl1, hl2, -⟩ := ahead_own h T (t % C) (k % each) (Nat.mod_lt _ hC0) (by rw [he]; exact Nat.mod_lt _ he0) w
  have CA := fun v => (ahead_own h T (t % C) (k % each) (Nat.mod_lt _ hC0) (by rw [he]; exact Nat.mod_lt _ he0) v)
  have hs := h.size
  have k0 := Lib.hid (World.grownBy_alloc w (.cells a 29) none)
  have hr := Lib.hid (PlV.range (a := a) w 29)
  have HS := Lib.hid (slotsOf_any h who (w.alloc (.cells a 29)))
  have c2 : (w.alloc (.cells a 29)).cell? ⟨w.heap.size, 129, none⟩ = some (.int .u64 C) := PlV.cell w 29 h.cyc
  have hq : k / each ≤ k := Nat.div_le_self _ _
  have htc : t / C * C ≤ t := Nat.div_mul_le_self _ _
  have htm : t / C * C + t % C = t := by have := Nat.div_add_mod t C; rw [Nat.mul_comm C] at this; exact this
  generalize hPp : P (m (t % C) + k % each) = p0 at *
  generalize hqq : k / each = q at *
  generalize hrr : k % each = r at *
  generalize hbb : t / C * C = base at *
  have c2' := Lib.hid c2
  rw [he] at HS
  have hz : ((each : Int) == 0) = false := by simp; omega
  have hk1 : decide (((k + 1 : Nat) : Int) < 1) = false := by simp; omega
  have e1 : IntKind.i64.wrap (((k + 1 : Nat) : Int) - 1) = (k : Int) := by rw [IntKind.wrap_i64]; omega
  have e2 : Int.tdiv (k : Int) (each : Int) = (q : Int) := by rw [← hqq]; exact (Int.ofNat_tdiv k each).symm
  have e3 : IntKind.i64.wrap (q : Int) = (q : Int) := by rw [IntKind.wrap_i64]; omega
  have e4 : IntKind.u64.wrap (q : Int) = (q : Int) := by rw [IntKind.wrap_u64]; omega
  have hz2 : ((C : Int) == 0) = false := by simp; omega
  obtain ⟨sn, hsn⟩ : ∃ sn, t % C = sn := ⟨_, rfl⟩
  have hsl : sn < C := by rw [← hsn]; exact Nat.mod_lt _ hC0
  have e5 : (t : Int) % (C : Int) = (sn : Int) := by omega
  have e6 : IntKind.u64.wrap ((t : Int) - (sn : Int)) = (base : Int) := by rw [IntKind.wrap_u64]; omega
  rw [hsn] at sp2 hlen htm
  simp only [hsn] at CA
  have e7 : Int.tmod (k : Int) (each : Int) = (r : Int) := by rw [← hrr]; exact (Int.ofNat_tmod k each).symm
  have SP1 := Lib.hid sp1
  have SP2 := Lib.hid sp2
  have HLEN := Lib.hid hlen
  have HCA := Lib.hid CA
  have HT2 := Lib.hid htm
  clear h T hT sp1 sp2 hlen CA hqq hrr hbb htm hPp he hsn
  go_enter Try.func21, Try.ntmps21
  go_wp2_with (refine load_plan w.heap.size a hr.out hs rfl ?_)
  refine HS.out.mono ?_
  rintro e w1 ⟨rfl, k1⟩
  have c2a := k1.cell c2 (by simp)
  have hra : Hid (w1.rangeAt w.heap.size 0 a.toList) := Lib.hid (fun j v hv => k1.cell (hr.out j v hv) (by simp))
  have K1 := Lib.hid (k0.out.trans k1)
  clear HS hr k0 k1 c2 c2'
  go_wp2
  have zero : 18446744073709551616 ≤ E (m t + k) → R = #[.int .u64 0, .int .u64 0, .bool false] := fun hh => by rw [hR, if_neg (by omega)]
  have some_ : E (m t + k) < 18446744073709551616 → R = #[.int .u64 (P (m t + k) : Nat), .int .u64 (E (m t + k) : Nat), .bool true] := fun hh => by rw [hR, if_pos hh]
  have ZERO := Lib.hid zero
  have SOME := Lib.hid some_
  clear some_ hR
  clear zero
  by_cases ho1 : q * C < 18446744073709551616
  · obtain ⟨wy, hwy⟩ : ∃ wy, q * C = wy := ⟨_, rfl⟩
    have CT := Lib.hid (times_ok q C (by omega) (by omega) ho1)
    rw [hwy] at CT SP1 SP2 ho1
    have HWY := Lib.hid hwy
    clear hwy
    go_quiet ((go_at_call 25; exact Calls.quiet_of_same ((CT.out _).mono fun _ _ ⟨a, c⟩ => ⟨a, c.symm⟩)))
    have kq := drewN_grown w1 nq
    have c2b := kq.cell c2a (by simp)
    have hrb : Hid ((w1.drewN nq).rangeAt w.heap.size 0 a.toList) := Lib.hid (fun j v hv => kq.cell (hra.out j v hv) (by simp))
    have K2 := Lib.hid (K1.out.trans kq)
    generalize w1.drewN nq = w2 at *
    clear CT hra c2a kq K1
    by_cases ho2 : base + wy < 18446744073709551616
    · have CB := Lib.hid (add_ok base wy ho2)
      go_wp2_with fail
      refine (CB.out _).mono ?_
      rintro e w' ⟨rfl, rfl⟩
      obtain ⟨first, hfirst⟩ : ∃ first, base + wy = first := ⟨_, rfl⟩
      rw [hfirst] at SP1 SP2 ho2
      go_wp2_with fail
      obtain ⟨len', hlen', hl1', hl2', CA'⟩ := HCA.out w2.drew
      have hll : len' = len := by have := HLEN.out; omega
      subst hll
      have CA2 := Lib.hid CA'
      have hrd : w2.drew.rangeAt w.heap.size 0 a.toList := hrb.out
      clear CA' hlen' hl2' HCA c2b hfirst CB
      have hez : ¬ each = 0 := by omega
      have e9 : IntKind.i64.wrap (k : Int) = (k : Int) := by rw [IntKind.wrap_i64]; omega
      have kd : w2.grownBy w2.drew none := ⟨rfl, rfl, rfl, Nat.le_refl _, fun _ _ _ => rfl⟩
      have K2d := Lib.hid (K2.out.trans kd)
      clear kd
      refine wp_region_held_drew (S := fun w' => w'.rangeAt w.heap.size 0 a.toList) (by kernel_rfl) hrd (fun hHeld => ?_)
      refine wpAnyH_take (i := 0) (oi := ⟨_, _, _, _, _, _⟩) (v := _) rfl (by kernel_rfl) (by kernel_rfl) (by kernel_rfl) (fun _ _ _ h => h) (yieldsIf_load_mid (by rfl) _ _ rfl _ _ rfl _ _ (fun w hw => hw) Try.underlying29 rfl (by rw [plan_info]; simp [hs])) (by assumption) ?_
      simp only [Act.put, List.setIfInBounds_toArray, List.set_cons_zero, List.set_cons_succ]
      refine wpAnyH_take (i := 1) (oi := ⟨_, _, _, _, _, _⟩) (v := ?_) rfl (by kernel_rfl) (by kernel_rfl) (by kernel_rfl) (fun _ _ _ h => h) (Or.inl ⟨by rfl, ?_⟩) (by assumption) ?_
      rotate_left
      · intro wz hSw
        go_simp
        try with_reducible rfl
      simp only [Act.put, List.setIfInBounds_toArray, List.set_cons_zero, List.set_cons_succ]
      refine wpAnyH_take (i := 2) (oi := ⟨_, _, _, _, _, _⟩) (v := ?_) rfl (by kernel_rfl) (by kernel_rfl) (by kernel_rfl) (fun _ _ _ h => h) (Or.inl ⟨by rfl, ?_⟩) (by assumption) ?_
      rotate_left
      · intro wz hSw
        go_simp
        try with_reducible rfl
      simp only [Act.put, List.setIfInBounds_toArray, List.set_cons_zero, List.set_cons_succ]
      refine wpAnyH_take (i := 3) (oi := ⟨_, _, _, _, _, _⟩) (v := ?_) rfl (by kernel_rfl) (by kernel_rfl) (by kernel_rfl) (fun _ _ _ h => h) (Or.inl ⟨by rfl, ?_⟩) (by assumption) ?_
      rotate_left
      · intro wz hSw
        go_simp
        try with_reducible rfl
      simp only [Act.put, List.setIfInBounds_toArray, List.set_cons_zero, List.set_cons_succ]
      refine wpAnyH_take (i := 4) (oi := ⟨_, _, _, _, _, _⟩) (v := ?_) rfl (by kernel_rfl) (by kernel_rfl) (by kernel_rfl) (fun _ _ _ h => h) (Or.inl ⟨by rfl, ?_⟩) (by assumption) ?_
      rotate_left
      · intro wz hSw
        go_simp
        try with_reducible rfl
      simp only [Act.put, List.setIfInBounds_toArray, List.set_cons_zero, List.set_cons_succ]
      refine wpAnyH_take (i := 5) (oi := ⟨_, _, _, _, _, _⟩) (v := ?_) rfl (by kernel_rfl) (by kernel_rfl) (by kernel_rfl) (fun _ _ _ h => h) (Or.inl ⟨by rfl, ?_⟩) (by assumption) ?_
      rotate_left
      · intro wz hSw
        go_simp
        try with_reducible rfl
      simp only [Act.put, List.setIfInBounds_toArray, List.set_cons_zero, List.set_cons_succ]
      refine wpAnyH_take (i := 6) (oi := ⟨_, _, _, _, _, _⟩) (v := ?_) rfl (by kernel_rfl) (by kernel_rfl) (by kernel_rfl) (fun _ _ _ h => h) (Or.inl ⟨by rfl, ?_⟩) (by assumption) ?_
      rotate_left
      · intro wz hSw
        go_simp
        try with_reducible rfl
      simp only [Act.put, List.setIfInBounds_toArray, List.set_cons_zero, List.set_cons_succ]
      refine wpAnyH_ready (rs := [7]) (by kernel_rfl) (by simp) ?_
      refine AllReadyH.cons (o := ⟨_, _, _, _, _, _⟩) rfl (fun K hK => ?_) AllReadyH.nil
      go_simp
      refine CA2.out.mono ?_
      rintro e w4 ⟨rfl, k3⟩
      refine hK.out _ _ (fun j v hv => k3.cell (hrd j v hv) (by simp)) (fun hHeld2 => ?_)
      clear hK K
      try simp only [Act.put, List.setIfInBounds_toArray, List.set_cons_zero, List.set_cons_succ]
      refine wpAnyH_take (i := 8) (oi := ⟨_, _, _, _, _, _⟩) (v := ?_) rfl (by kernel_rfl) (by kernel_rfl) (by kernel_rfl) (fun _ _ _ h => h) (Or.inl ⟨by rfl, ?_⟩) (by assumption) ?_
      rotate_left
      · intro wz hSw
        go_simp
        try with_reducible rfl
      simp only [Act.put, List.setIfInBounds_toArray, List.set_cons_zero, List.set_cons_succ]
      refine wpAnyH_take (i := 9) (oi := ⟨_, _, _, _, _, _⟩) (v := ?_) rfl (by kernel_rfl) (by kernel_rfl) (by kernel_rfl) (fun _ _ _ h => h) (Or.inl ⟨by rfl, ?_⟩) (by assumption) ?_
      rotate_left
      · intro wz hSw
        go_simp
        try with_reducible rfl
      simp only [Act.put, List.setIfInBounds_toArray, List.set_cons_zero, List.set_cons_succ]
      refine wpAnyH_take (i := 10) (oi := ⟨_, _, _, _, _, _⟩) (v := ?_) rfl (by kernel_rfl) (by kernel_rfl) (by kernel_rfl) (fun _ _ _ h => h) (Or.inl ⟨by rfl, ?_⟩) (by assumption) ?_
      rotate_left
      · intro wz hSw
        go_simp
        try with_reducible rfl
      simp only [Act.put, List.setIfInBounds_toArray, List.set_cons_zero, List.set_cons_succ]
      refine wpAnyH_take (i := 11) (oi := ⟨_, _, _, _, _, _⟩) (v := ?_) rfl (by kernel_rfl) (by kernel_rfl) (by kernel_rfl) (fun _ _ _ h => h) (Or.inl ⟨by rfl, ?_⟩) (by assumption) ?_
      rotate_left
      · intro wz hSw
        go_simp
        try with_reducible rfl
      simp only [Act.put, List.setIfInBounds_toArray, List.set_cons_zero, List.set_cons_succ]
      refine wpAnyH_take (i := 12) (oi := ⟨_, _, _, _, _, _⟩) (v := ?_) rfl (by kernel_rfl) (by kernel_rfl) (by kernel_rfl) (fun _ _ _ h => h) (Or.inl ⟨by rfl, ?_⟩) (by assumption) ?_
      rotate_left
      · intro wz hSw
        go_simp
        try with_reducible rfl
      simp only [Act.put, List.setIfInBounds_toArray, List.set_cons_zero, List.set_cons_succ]
      refine wpAnyH_done (by kernel_rfl) ?_ _
      clear hHeld hHeld2
      have K3 := Lib.hid (K2d.out.trans k3)
      have e8 : IntKind.u64.wrap ((p0 : Int) + (len' : Int)) = ((p0 + len' : Nat) : Int) := by rw [IntKind.wrap_u64]; omega
      clear k3 hrd hrb CA2
      by_cases ho3 : first + (p0 + len') < 18446744073709551616
      · have CC := Lib.hid (add_ok first (p0 + len') ho3)
        have e10 : IntKind.u64.wrap (((first + (p0 + len') : Nat) : Int) - (len' : Int)) = ((first + p0 : Nat) : Int) := by rw [IntKind.wrap_u64]; omega
        obtain ⟨fin, hfin⟩ : ∃ fin, first + (p0 + len') = fin := ⟨_, rfl⟩
        rw [hfin] at CC e10 ho3
        have HFIN := Lib.hid hfin
        clear hfin
        go_wp2_with fail
        refine (CC.out _).mono ?_
        rintro e w' ⟨rfl, rfl⟩
        go_wp2
        go_ret3
        refine ⟨?_, K3.out⟩
        have h2 : E (m t + k) = fin := by rw [SP2.out, HLEN.out, ← HFIN.out]; omega
        rw [SOME.out (by rw [h2]; exact ho3), h2, show P (m t + k) = first + p0 by rw [SP1.out]; omega]
        simp
      · have CC := Lib.hid (add_no first (p0 + len') (by omega) ho2 (by omega))
        have HO3 := Lib.hid ho3
        clear ho3
        go_wp2_with fail
        refine (CC.out _).mono ?_
        rintro e w' ⟨rfl, rfl⟩
        go_wp2
        go_ret3
        exact ⟨by rw [ZERO.out (by rw [SP2.out, HLEN.out]; have := HO3.out; omega)]; rfl, K3.out⟩
    · have CB := Lib.hid (add_no base wy (by omega) (by omega) ho1)
      go_wp2_with fail
      refine (CB.out _).mono ?_
      rintro e w' ⟨rfl, rfl⟩
      go_wp2
      go_ret3
      exact ⟨by rw [ZERO.out (by rw [SP2.out]; omega)]; rfl, K2.out⟩
  · have CT := Lib.hid (times_no q C (by omega) (by omega) (by omega))
    have HQC : Hid (18446744073709551616 ≤ q * C) := Lib.hid (by omega)
    clear ho1
    go_quiet ((go_at_call 25; exact Calls.quiet_of_same ((CT.out _).mono fun _ _ ⟨a, c⟩ => ⟨a, c.symm⟩)))
    have K2 := Lib.hid (K1.out.trans (drewN_grown w1 nq))
    generalize w1.drewN nq = w2 at *
    go_wp2
    go_ret3
    exact ⟨by rw [ZERO.out (by rw [SP2.out]; have := HQC.out; omega)]; rfl, K2.out⟩
end Go.Proofs.Ytacdmolkagcafaa
