/-
  BoxPlays: of each row of steps every answer, and all things that wait, are as the document says.
-/
import Derived.Test.YtijgdlanjhcabaaDoesAny
import Derived.Deep.RegionHeld3
import Derived.Deep.Cut
namespace Go.Proofs.Ytijgdlanjhcabaa
open Go.RowKit Go.Lib Go.Conc
set_option maxRecDepth 100000
set_option linter.unusedVariables false

/-- What holds under more holds under less. -/
theorem wpAnyH_less {P : Program} {md : Region.Mode} {ops : Array Oper} {Q : Exit → Act → World → Prop} {S S2 : World → Prop} (hs : ∀ w, S2 w → S w) : ∀ (fuel : Nat) (listed : Array Bool) (a : Act) (w : World), wpAnyH P md ops Q S2 fuel listed a w → wpAnyH P md ops Q S fuel listed a w
  | 0, _, _, _, h => h
  | fuel + 1, _, _, _, h => ⟨h.1, fun i hi => wpOp_mono (fun a' w' h' => ⟨hs w' h'.1, wpAnyH_less hs fuel _ a' w' h'.2⟩) (h.2 i hi)⟩

set_option maxRecDepth 100000 in
set_option maxHeartbeats 32000000 in
theorem bplays_walk (x y : Int) (sa2 : Option Addr) (len2 cap2 sb2 off2 : Nat) (zs2 : Nat → Nat → Int) (bs2 : Nat → Bool) (w : World)
    (_hm2 : len2 ≤ maxLen) (hs2 : 0 < len2 → sa2 = some ⟨sb2, off2, none⟩ ∧ sb2 < w.heap.size)
    (hz2 : ∀ j, j < len2 → (∀ i, i < 2 → w.cell? ⟨sb2, off2 + j * 3 + i, none⟩ = some (.int .i64 (zs2 j i))) ∧ w.cell? ⟨sb2, off2 + j * 3 + 2, none⟩ = some (.bool (bs2 j))) :
    Calls Try.prog 3 #[.int .i64 x, .int .i64 y, .slice sa2 len2 cap2] w fun e w' => e = .returned (.bool true) ∧ w.grownBy w' none := by
  have C0 := Lib.hid (alive10 w)
  have R0 : Hid (∀ (v : World) (j : Nat), w.grownBy v none → j < len2 → sa2 = some ⟨sb2, off2, none⟩ ∧ v.cell? ⟨sb2, off2 + j * 3, none⟩ = some (.int .i64 (zs2 j 0)) ∧ v.cell? ⟨sb2, off2 + j * 3 + 1, none⟩ = some (.int .i64 (zs2 j 1)) ∧ v.cell? ⟨sb2, off2 + j * 3 + 2, none⟩ = some (.bool (bs2 j))) := Lib.hid fun v j k hj => by
    obtain ⟨h1, h2⟩ := hs2 (by omega)
    obtain ⟨a, b⟩ := hz2 j hj
    exact ⟨h1, (k.cell_far ⟨sb2, off2 + j * 3, none⟩ h2 (by simp)).trans (a 0 (by omega)), (k.cell_far ⟨sb2, off2 + j * 3 + 1, none⟩ h2 (by simp)).trans (a 1 (by omega)), (k.cell_far ⟨sb2, off2 + j * 3 + 2, none⟩ h2 (by simp)).trans b⟩
  clear hs2 hz2
  by_cases hl1 : 40 < len2
  · have q : (40 : Int) < (len2 : Int) := by omega
    go_enter Try.func3, Try.ntmps3
    go_wp2_with fail
    refine C0.out.mono ?_
    rintro e w1 ⟨rfl, k1⟩
    go_wp2
    go_ret
    exact ⟨rfl, k1⟩
  have q1 : ¬ (40 : Int) < (len2 : Int) := by omega
  by_cases hl2 : 100 < x
  · have q : (100 : Int) < x := by omega
    go_enter Try.func3, Try.ntmps3
    go_wp2_with fail
    refine C0.out.mono ?_
    rintro e w1 ⟨rfl, k1⟩
    go_wp2
    go_ret
    exact ⟨rfl, k1⟩
  by_cases hl3 : 100 < y
  · have q : (100 : Int) < y := by omega
    go_enter Try.func3, Try.ntmps3
    go_wp2_with fail
    refine C0.out.mono ?_
    rintro e w1 ⟨rfl, k1⟩
    go_wp2
    go_ret
    exact ⟨rfl, k1⟩
  obtain ⟨n, hn⟩ : ∃ n : Nat, (n : Int) = max 0 (min x 4096) := ⟨(max 0 (min x 4096)).toNat, by omega⟩
  obtain ⟨m, hm⟩ : ∃ n : Nat, (n : Int) = max 0 (min y 4096) := ⟨(max 0 (min y 4096)).toNat, by omega⟩
  have HN := Lib.hid (And.intro hn hm)
  clear hn hm
  go_enter Try.func3, Try.ntmps3
  go_wp2_with fail
  refine C0.out.mono ?_
  rintro e u1 ⟨rfl, k1⟩
  have G1 := Lib.hid k1
  have CN := Lib.hid (BI.new_any x n HN.out.1 u1)
  clear k1 C0
  go_wp2_with fail
  refine CN.out.mono ?_
  rintro e u2 ⟨rfl, h2, k2⟩
  have H2 := Lib.hid h2
  have K2 := Lib.hid k2
  have CN2 := Lib.hid (BI.new_any y m HN.out.2 u2)
  clear h2 k2 CN
  go_wp2_with fail
  refine CN2.out.mono ?_
  rintro e u3 ⟨rfl, h3, k3⟩
  have H3 := Lib.hid h3
  have K3 := Lib.hid k3
  have CR1 := Lib.hid (room_ref x n HN.out.1 u3)
  have CR2 := Lib.hid (room_ref y m HN.out.2 u3)
  clear h3 k3 CN2
  go_wp2_with fail
  refine CR1.out.mono ?_
  rintro e u4 ⟨rfl, rfl⟩
  go_wp2_with fail
  refine CR2.out.mono ?_
  rintro e u5 ⟨rfl, rfl⟩
  clear CR1 CR2
  have HQ : Hid (PQ w (u3.alloc (.cells #[.pointer (some ⟨u1.heap.size + 1, 0, none⟩), .pointer (some ⟨u2.heap.size + 1, 0, none⟩), .slice none 0 0, .slice none 0 0, .int .i64 (n : Nat), .int .i64 (m : Nat)] 30)) u3.heap.size (u1.heap.size + 1) u1.heap.size n (u2.heap.size + 1) u2.heap.size m) := by
    have ka := World.grownBy_alloc u3 (.cells #[.pointer (some ⟨u1.heap.size + 1, 0, none⟩), .pointer (some ⟨u2.heap.size + 1, 0, none⟩), .slice none 0 0, .slice none 0 0, .int .i64 (n : Nat), .int .i64 (m : Nat)] 30) none
    have hw3 : w.grownBy u3 none := (G1.out.trans K2.out).trans K3.out
    refine Lib.hid ⟨[], [], _, _, [], [], ⟨heap_alloc_new _ _, (H2.out.kept K3.out).kept ka, H3.out.kept ka, RI.nil _, RI.nil _, ?_, ?_, hw3.trans ka, hw3.size, ⟨G1.out.size, ?_⟩, ⟨Nat.le_trans G1.out.size K2.out.size, ?_⟩⟩, rfl, rfl⟩
    · intro e
      have := H2.out.lt.2.1
      omega
    · intro p hp
      cases hp
    · intro p hp
      cases hp
    · intro p hp
      cases hp
  clear G1 H2 K2 H3 K3
  go_wp2_with fail
  generalize u3.alloc (.cells #[.pointer (some ⟨u1.heap.size + 1, 0, none⟩), .pointer (some ⟨u2.heap.size + 1, 0, none⟩), .slice none 0 0, .slice none 0 0, .int .i64 (n : Nat), .int .i64 (m : Nat)] 30) = u6 at *
  generalize u1.heap.size + 1 = ba at *
  generalize u1.heap.size = ca at *
  generalize u2.heap.size + 1 = bb at *
  generalize u2.heap.size = cb at *
  generalize u3.heap.size = tb at *
  go_loopw [35] (fun it wr => ∃ (j : Nat), j ≤ len2 ∧ it = .int .i64 j ∧ Hid (PQ w wr tb ba ca n bb cb m)) (fun it _ => len2 - (Go.RowKit.intOf it).toNat)
  case atStart => exact ⟨0, Nat.zero_le _, rfl, HQ⟩
  case round =>
    obtain ⟨j, hj, rfl, HQ1⟩ := hrel
    clear HQ
    by_cases hlt : j < len2
    · obtain ⟨rfl, z0, z1, z2⟩ := R0.out wr j (by obtain ⟨_, _, _, _, _, _, h, _⟩ := HQ1.out; exact h.gw) hlt
      have qj : (j : Int) < (len2 : Int) := by omega
      obtain ⟨kd, hkd⟩ : ∃ c, zs2 j 0 = c := ⟨_, rfl⟩
      obtain ⟨z, hzz⟩ : ∃ c, zs2 j 1 = c := ⟨_, rfl⟩
      obtain ⟨ot, hot⟩ : ∃ c, bs2 j = c := ⟨_, rfl⟩
      rw [hkd] at z0
      rw [hzz] at z1
      rw [hot] at z2
      clear hkd hzz hot
      go_upto_region 9 with fail
      have ko := World.grownBy_alloc wr (.cells #[.int .i64 kd, .int .i64 z, .bool ot] 32) none
      have HO : Hid (OpAt (wr.alloc (.cells #[.int .i64 kd, .int .i64 z, .bool ot] 32)) wr.heap.size kd z ot) := Lib.hid (heap_alloc_new _ _)
      have HQ2 : Hid (PQ w (wr.alloc (.cells #[.int .i64 kd, .int .i64 z, .bool ot] 32)) tb ba ca n bb cb m) := by
        obtain ⟨LA, LB, vx, vy, X, Y, H, e1, e2⟩ := HQ1.out
        exact Lib.hid ⟨LA, LB, vx, vy, X, Y, H.kept ko, e1, e2⟩
      clear z0 z1 z2 HQ1 ko
      generalize wr.alloc (.cells #[.int .i64 kd, .int .i64 z, .bool ot] 32) = v0 at *
      generalize wr.heap.size = ob at *
      have HQD : Hid (PQ w v0.drew tb ba ca n bb cb m) := by
        obtain ⟨LA, LB, vx, vy, X, Y, H, e1, e2⟩ := HQ2.out
        exact Lib.hid ⟨LA, LB, vx, vy, X, Y, H.drew, e1, e2⟩
      have CD := Lib.hid (does_any kd z ot HQD.out)
      obtain ⟨o0, o1, o2⟩ := HO.out.cells
      have o0' : v0.drew.cell? ⟨ob, 0, none⟩ = some (.int .i64 kd) := o0
      have o1' : v0.drew.cell? ⟨ob, 0 + 1, none⟩ = some (.int .i64 z) := o1
      have o2' : v0.drew.cell? ⟨ob, 0 + 2, none⟩ = some (.bool ot) := o2
      obtain ⟨q0, q1⟩ : v0.drew.cell? ⟨tb, 0, none⟩ = some (.pointer (some ⟨ba, 0, none⟩)) ∧ v0.drew.cell? ⟨tb, 1, none⟩ = some (.pointer (some ⟨bb, 0, none⟩)) := by
        obtain ⟨LA, LB, vx, vy, X, Y, H, e1, e2⟩ := HQD.out
        exact ⟨H.cells.1, H.cells.2.1⟩
      have o1'' : v0.drew.cell? ⟨ob, 1, none⟩ = some (.int .i64 z) := o1
      have o2'' : v0.drew.cell? ⟨ob, 2, none⟩ = some (.bool ot) := o2
      clear HQ2 HQD HO
      refine wp_region_held_drew (S := fun _ => True) (by kernel_rfl) trivial (fun hHeld => ?_)
      refine wpAnyH_take (i := 0) (oi := ⟨_, _, _, _, _, _⟩) (v := ?_) rfl (by kernel_rfl) (by kernel_rfl) (by kernel_rfl) (fun _ _ _ h => h) (Or.inl ⟨by rfl, ?_⟩) (by assumption) ?_
      rotate_left
      · intro wz hSw
        go_simp
        try with_reducible rfl
      simp only [Act.put, List.setIfInBounds_toArray, List.set_cons_zero, List.set_cons_succ]
      refine wpAnyH_ready (rs := [1]) (by kernel_rfl) (by simp) ?_
      refine AllReadyH.cons (o := ⟨_, _, _, _, _, _⟩) rfl (fun K hK => ?_) AllReadyH.nil
      go_simp
      refine hK.out _ _ trivial (fun hHeld1 => ?_)
      clear hK K
      try simp only [Act.put, List.setIfInBounds_toArray, List.set_cons_zero, List.set_cons_succ]
      refine wpAnyH_ready (rs := [2]) (by kernel_rfl) (by simp) ?_
      refine AllReadyH.cons (o := ⟨_, _, _, _, _, _⟩) rfl (fun K hK => ?_) AllReadyH.nil
      go_simp
      refine CD.out.mono ?_
      rintro e x1 ⟨rfl, hq1⟩
      refine hK.out _ _ trivial (fun hHeld2 => ?_)
      clear hK K
      try simp only [Act.put, List.setIfInBounds_toArray, List.set_cons_zero, List.set_cons_succ]
      obtain ⟨LA1, LB1, vx1, vy1, X1, Y1, hp1, ex1, ey1⟩ := hq1
      obtain ⟨ax, cx, hvx, _, _, _⟩ := id hp1.rx
      subst hvx
      obtain ⟨ay, cy, hvy, _, _, _⟩ := id hp1.ry
      subst hvy
      have HP1 := Lib.hid hp1
      have EX1 := Lib.hid ex1
      have EY1 := Lib.hid ey1
      have CA := Lib.hid (BI.all_any hp1.a)
      have hlb : Hid (X1.length ≤ 4096 ∧ Y1.length ≤ 4096) := Lib.hid (by
        have h1 := congrArg List.length ex1
        have h2 := congrArg List.length ey1
        have h3 := hp1.a.le
        have h4 := hp1.b.le
        simp at h1 h2
        omega)
      have hS1 : x1.cell? ⟨tb, 0, none⟩ = some (.pointer (some ⟨ba, 0, none⟩)) ∧ x1.cell? ⟨tb, 1, none⟩ = some (.pointer (some ⟨bb, 0, none⟩)) ∧ x1.cell? ⟨tb, 2, none⟩ = some (.slice ax X1.length cx) ∧ x1.cell? ⟨tb, 3, none⟩ = some (.slice ay Y1.length cy) := ⟨hp1.cells.1, hp1.cells.2.1, hp1.cells.2.2.1, hp1.cells.2.2.2.1⟩
      clear hp1 ex1 ey1 CD o0 o1 o2 o0' o1' o2' o1'' o2'' q0 q1
      refine wpAnyH_less (S2 := fun w' => w'.cell? ⟨tb, 0, none⟩ = some (.pointer (some ⟨ba, 0, none⟩)) ∧ w'.cell? ⟨tb, 1, none⟩ = some (.pointer (some ⟨bb, 0, none⟩)) ∧ w'.cell? ⟨tb, 2, none⟩ = some (.slice ax X1.length cx) ∧ w'.cell? ⟨tb, 3, none⟩ = some (.slice ay Y1.length cy)) (fun _ _ => trivial) _ _ _ _ ?_
      refine wpAnyH_take (i := 3) (oi := ⟨_, _, _, _, _, _⟩) (v := ?_) rfl (by kernel_rfl) (by kernel_rfl) (by kernel_rfl) (fun _ _ _ h => h) (Or.inl ⟨by rfl, ?_⟩) (by assumption) ?_
      rotate_left
      · intro wz hSw
        go_simp
        try with_reducible rfl
      simp only [Act.put, List.setIfInBounds_toArray, List.set_cons_zero, List.set_cons_succ]
      refine wpAnyH_take (i := 4) (oi := ⟨_, _, _, _, _, _⟩) (v := ?_) rfl (by kernel_rfl) (by kernel_rfl) (by kernel_rfl) (fun _ _ _ h => h) (Or.inl ⟨by rfl, ?_⟩) (by assumption) ?_
      rotate_left
      · intro wz hSw
        go_simp
        try with_reducible rfl
      simp only [Act.put, List.setIfInBounds_toArray, List.set_cons_zero, List.set_cons_succ]
      refine wpAnyH_take (i := 5) (oi := ⟨_, _, _, _, _, _⟩) (v := ?_) rfl (by kernel_rfl) (by kernel_rfl) (by kernel_rfl) (fun _ _ _ h => h) (Or.inl ⟨by rfl, ?_⟩) (by assumption) ?_
      rotate_left
      · intro wz hSw
        go_simp
        try with_reducible rfl
      simp only [Act.put, List.setIfInBounds_toArray, List.set_cons_zero, List.set_cons_succ]
      refine wpAnyH_take (i := 6) (oi := ⟨_, _, _, _, _, _⟩) (v := ?_) rfl (by kernel_rfl) (by kernel_rfl) (by kernel_rfl) (fun _ _ _ h => h) (Or.inl ⟨by rfl, ?_⟩) (by assumption) ?_
      rotate_left
      · intro wz hSw
        go_simp
        try with_reducible rfl
      simp only [Act.put, List.setIfInBounds_toArray, List.set_cons_zero, List.set_cons_succ]
      refine wpAnyH_take (i := 7) (oi := ⟨_, _, _, _, _, _⟩) (v := ?_) rfl (by kernel_rfl) (by kernel_rfl) (by kernel_rfl) (fun _ _ _ h => h) (Or.inl ⟨by rfl, ?_⟩) (by assumption) ?_
      rotate_left
      · intro wz hSw
        go_simp
        try with_reducible rfl
      simp only [Act.put, List.setIfInBounds_toArray, List.set_cons_zero, List.set_cons_succ]
      refine wpAnyH_take (i := 8) (oi := ⟨_, _, _, _, _, _⟩) (v := ?_) rfl (by kernel_rfl) (by kernel_rfl) (by kernel_rfl) (fun _ _ _ h => h) (Or.inl ⟨by rfl, ?_⟩) (by assumption) ?_
      rotate_left
      · intro wz hSw
        obtain ⟨h0, h1, h2, h3⟩ := hSw
        go_simp
        try with_reducible rfl
      simp only [Act.put, List.setIfInBounds_toArray, List.set_cons_zero, List.set_cons_succ]
      refine wpAnyH_take (i := 10) (oi := ⟨_, _, _, _, _, _⟩) (v := ?_) rfl (by kernel_rfl) (by kernel_rfl) (by kernel_rfl) (fun _ _ _ h => h) (Or.inl ⟨by rfl, ?_⟩) (by assumption) ?_
      rotate_left
      · intro wz hSw
        go_simp
        try with_reducible rfl
      simp only [Act.put, List.setIfInBounds_toArray, List.set_cons_zero, List.set_cons_succ]
      refine wpAnyH_take (i := 11) (oi := ⟨_, _, _, _, _, _⟩) (v := ?_) rfl (by kernel_rfl) (by kernel_rfl) (by kernel_rfl) (fun _ _ _ h => h) (Or.inl ⟨by rfl, ?_⟩) (by assumption) ?_
      rotate_left
      · intro wz hSw
        go_simp
        try with_reducible rfl
      simp only [Act.put, List.setIfInBounds_toArray, List.set_cons_zero, List.set_cons_succ]
      refine wpAnyH_take (i := 12) (oi := ⟨_, _, _, _, _, _⟩) (v := ?_) rfl (by kernel_rfl) (by kernel_rfl) (by kernel_rfl) (fun _ _ _ h => h) (Or.inl ⟨by rfl, ?_⟩) (by assumption) ?_
      rotate_left
      · intro wz hSw
        go_simp
        try with_reducible rfl
      simp only [Act.put, List.setIfInBounds_toArray, List.set_cons_zero, List.set_cons_succ]
      refine wpAnyH_take (i := 13) (oi := ⟨_, _, _, _, _, _⟩) (v := ?_) rfl (by kernel_rfl) (by kernel_rfl) (by kernel_rfl) (fun _ _ _ h => h) (Or.inl ⟨by rfl, ?_⟩) (by assumption) ?_
      rotate_left
      · intro wz hSw
        obtain ⟨h0, h1, h2, h3⟩ := hSw
        go_simp
        try with_reducible rfl
      simp only [Act.put, List.setIfInBounds_toArray, List.set_cons_zero, List.set_cons_succ]
      refine wpAnyH_ready (rs := [9]) (by kernel_rfl) (by simp) ?_
      refine AllReadyH.cons (o := ⟨_, _, _, _, _, _⟩) rfl (fun K hK => ?_) AllReadyH.nil
      go_simp
      refine CA.out.mono ?_
      rintro e x2 ⟨⟨va, rfl, ha⟩, h2, k2⟩
      rw [vals_z, EX1.out, show LA1.length = X1.length by rw [← EX1.out]; simp] at ha
      have HP2 := Lib.hid (HP1.out.on_a h2 k2 (fun p hp => Or.inl hp))
      obtain ⟨sva, cva, hva, _, _⟩ := BI.own_at ha
      subst hva
      have CS := Lib.hid (sameZ_yes (reads_own ha) HP2.out.rx.reads (by have := hlb.out; omega))
      refine hK.out _ _ ⟨HP2.out.cells.1, HP2.out.cells.2.1, HP2.out.cells.2.2.1, HP2.out.cells.2.2.2.1⟩ (fun hHeld3 => ?_)
      clear hK K ha h2 k2 CA HP1 hS1
      try simp only [Act.put, List.setIfInBounds_toArray, List.set_cons_zero, List.set_cons_succ]
      refine wpAnyH_ready (rs := [14]) (by kernel_rfl) (by simp) ?_
      refine AllReadyH.cons (o := ⟨_, _, _, _, _, _⟩) rfl (fun K hK => ?_) AllReadyH.nil
      go_simp
      refine CS.out.mono ?_
      rintro e x3 ⟨rfl, k3⟩
      have HP3 := Lib.hid (HP2.out.kept k3)
      have CB := Lib.hid (BI.all_any HP3.out.b)
      refine hK.out _ _ ⟨HP3.out.cells.1, HP3.out.cells.2.1, HP3.out.cells.2.2.1, HP3.out.cells.2.2.2.1⟩ (fun hHeld4 => ?_)
      clear hK K k3 CS HP2 hHeld3
      try simp only [Act.put, List.setIfInBounds_toArray, List.set_cons_zero, List.set_cons_succ]
      refine wpAnyH_take (i := 15) (oi := ⟨_, _, _, _, _, _⟩) (v := ?_) rfl (by kernel_rfl) (by kernel_rfl) (by kernel_rfl) (fun _ _ _ h => h) (Or.inl ⟨by rfl, ?_⟩) (by assumption) ?_
      rotate_left
      · intro wz hSw
        go_simp
        try with_reducible rfl
      simp only [Act.put, List.setIfInBounds_toArray, List.set_cons_zero, List.set_cons_succ]
      refine wpAnyH_take (i := 16) (oi := ⟨_, _, _, _, _, _⟩) (v := ?_) rfl (by kernel_rfl) (by kernel_rfl) (by kernel_rfl) (fun _ _ _ h => h) (Or.inl ⟨by rfl, ?_⟩) (by assumption) ?_
      rotate_left
      · intro wz hSw
        go_simp
        try with_reducible rfl
      simp only [Act.put, List.setIfInBounds_toArray, List.set_cons_zero, List.set_cons_succ]
      refine wpAnyH_take (i := 17) (oi := ⟨_, _, _, _, _, _⟩) (v := ?_) rfl (by kernel_rfl) (by kernel_rfl) (by kernel_rfl) (fun _ _ _ h => h) (Or.inl ⟨by rfl, ?_⟩) (by assumption) ?_
      rotate_left
      · intro wz hSw
        go_simp
        try with_reducible rfl
      simp only [Act.put, List.setIfInBounds_toArray, List.set_cons_zero, List.set_cons_succ]
      refine wpAnyH_take (i := 18) (oi := ⟨_, _, _, _, _, _⟩) (v := ?_) rfl (by kernel_rfl) (by kernel_rfl) (by kernel_rfl) (fun _ _ _ h => h) (Or.inl ⟨by rfl, ?_⟩) (by assumption) ?_
      rotate_left
      · intro wz hSw
        go_simp
        try with_reducible rfl
      simp only [Act.put, List.setIfInBounds_toArray, List.set_cons_zero, List.set_cons_succ]
      refine wpAnyH_take (i := 19) (oi := ⟨_, _, _, _, _, _⟩) (v := ?_) rfl (by kernel_rfl) (by kernel_rfl) (by kernel_rfl) (fun _ _ _ h => h) (Or.inl ⟨by rfl, ?_⟩) (by assumption) ?_
      rotate_left
      · intro wz hSw
        go_simp
        try with_reducible rfl
      simp only [Act.put, List.setIfInBounds_toArray, List.set_cons_zero, List.set_cons_succ]
      refine wpAnyH_take (i := 20) (oi := ⟨_, _, _, _, _, _⟩) (v := ?_) rfl (by kernel_rfl) (by kernel_rfl) (by kernel_rfl) (fun _ _ _ h => h) (Or.inl ⟨by rfl, ?_⟩) (by assumption) ?_
      rotate_left
      · intro wz hSw
        go_simp
        try with_reducible rfl
      simp only [Act.put, List.setIfInBounds_toArray, List.set_cons_zero, List.set_cons_succ]
      refine wpAnyH_take (i := 21) (oi := ⟨_, _, _, _, _, _⟩) (v := ?_) rfl (by kernel_rfl) (by kernel_rfl) (by kernel_rfl) (fun _ _ _ h => h) (Or.inl ⟨by rfl, ?_⟩) (by assumption) ?_
      rotate_left
      · intro wz hSw
        obtain ⟨h0, h1, h2, h3⟩ := hSw
        go_simp
        try with_reducible rfl
      simp only [Act.put, List.setIfInBounds_toArray, List.set_cons_zero, List.set_cons_succ]
      refine wpAnyH_take (i := 23) (oi := ⟨_, _, _, _, _, _⟩) (v := ?_) rfl (by kernel_rfl) (by kernel_rfl) (by kernel_rfl) (fun _ _ _ h => h) (Or.inl ⟨by rfl, ?_⟩) (by assumption) ?_
      rotate_left
      · intro wz hSw
        go_simp
        try with_reducible rfl
      simp only [Act.put, List.setIfInBounds_toArray, List.set_cons_zero, List.set_cons_succ]
      refine wpAnyH_take (i := 24) (oi := ⟨_, _, _, _, _, _⟩) (v := ?_) rfl (by kernel_rfl) (by kernel_rfl) (by kernel_rfl) (fun _ _ _ h => h) (Or.inl ⟨by rfl, ?_⟩) (by assumption) ?_
      rotate_left
      · intro wz hSw
        go_simp
        try with_reducible rfl
      simp only [Act.put, List.setIfInBounds_toArray, List.set_cons_zero, List.set_cons_succ]
      refine wpAnyH_take (i := 25) (oi := ⟨_, _, _, _, _, _⟩) (v := ?_) rfl (by kernel_rfl) (by kernel_rfl) (by kernel_rfl) (fun _ _ _ h => h) (Or.inl ⟨by rfl, ?_⟩) (by assumption) ?_
      rotate_left
      · intro wz hSw
        go_simp
        try with_reducible rfl
      simp only [Act.put, List.setIfInBounds_toArray, List.set_cons_zero, List.set_cons_succ]
      refine wpAnyH_take (i := 26) (oi := ⟨_, _, _, _, _, _⟩) (v := ?_) rfl (by kernel_rfl) (by kernel_rfl) (by kernel_rfl) (fun _ _ _ h => h) (Or.inl ⟨by rfl, ?_⟩) (by assumption) ?_
      rotate_left
      · intro wz hSw
        obtain ⟨h0, h1, h2, h3⟩ := hSw
        go_simp
        try with_reducible rfl
      simp only [Act.put, List.setIfInBounds_toArray, List.set_cons_zero, List.set_cons_succ]
      refine wpAnyH_ready (rs := [22]) (by kernel_rfl) (by simp) ?_
      refine AllReadyH.cons (o := ⟨_, _, _, _, _, _⟩) rfl (fun K hK => ?_) AllReadyH.nil
      go_simp
      refine CB.out.mono ?_
      rintro e x4 ⟨⟨vb, rfl, hb⟩, h4, k4⟩
      rw [vals_z, EY1.out, show LB1.length = Y1.length by rw [← EY1.out]; simp] at hb
      have HP4 := Lib.hid (HP3.out.on_b h4 k4 (fun p hp => Or.inl hp))
      obtain ⟨svb, cvb, hvb, _, _⟩ := BI.own_at hb
      subst hvb
      have CS2 := Lib.hid (sameZ_yes (reads_own hb) HP4.out.ry.reads (by have := hlb.out; omega))
      refine hK.out _ _ ⟨HP4.out.cells.1, HP4.out.cells.2.1, HP4.out.cells.2.2.1, HP4.out.cells.2.2.2.1⟩ (fun hHeld5 => ?_)
      clear hK K hb h4 k4 CB HP3 hHeld4
      try simp only [Act.put, List.setIfInBounds_toArray, List.set_cons_zero, List.set_cons_succ]
      refine wpAnyH_ready (rs := [27]) (by kernel_rfl) (by simp) ?_
      refine AllReadyH.cons (o := ⟨_, _, _, _, _, _⟩) rfl (fun K hK => ?_) AllReadyH.nil
      go_simp
      refine CS2.out.mono ?_
      rintro e x5 ⟨rfl, k5⟩
      have HP5 := Lib.hid (HP4.out.kept k5)
      refine hK.out _ _ ⟨HP5.out.cells.1, HP5.out.cells.2.1, HP5.out.cells.2.2.1, HP5.out.cells.2.2.2.1⟩ (fun hHeld6 => ?_)
      clear hK K k5 CS2 HP4 hHeld5
      try simp only [Act.put, List.setIfInBounds_toArray, List.set_cons_zero, List.set_cons_succ]
      refine wpAnyH_take (i := 28) (oi := ⟨_, _, _, _, _, _⟩) (v := ?_) rfl (by kernel_rfl) (by kernel_rfl) (by kernel_rfl) (fun _ _ _ h => h) (Or.inl ⟨by rfl, ?_⟩) (by assumption) ?_
      rotate_left
      · intro wz hSw
        go_simp
        try with_reducible rfl
      simp only [Act.put, List.setIfInBounds_toArray, List.set_cons_zero, List.set_cons_succ]
      refine wpAnyH_take (i := 29) (oi := ⟨_, _, _, _, _, _⟩) (v := ?_) rfl (by kernel_rfl) (by kernel_rfl) (by kernel_rfl) (fun _ _ _ h => h) (Or.inl ⟨by rfl, ?_⟩) (by assumption) ?_
      rotate_left
      · intro wz hSw
        go_simp
        try with_reducible rfl
      simp only [Act.put, List.setIfInBounds_toArray, List.set_cons_zero, List.set_cons_succ]
      refine wpAnyH_done (by kernel_rfl) ?_ _
      have HQ5 : Hid (PQ w x5 tb ba ca n bb cb m) := Lib.hid ⟨LA1, LB1, _, _, X1, Y1, HP5.out, EX1.out, EY1.out⟩
      clear HP5 hHeld6 hHeld hHeld1 hHeld2
      go_wp2
      go_roundw
      case rel => first | exact ⟨j + 1, hlt, by go_num, HQ5⟩ | exact ⟨j + 1, hlt, by go_num⟩
      case measure => simp [Go.RowKit.intOf]; omega
    · obtain rfl : j = len2 := by omega
      obtain ⟨LA, LB, vx, vy, X, Y, hp, ex, ey⟩ := HQ1.out
      obtain ⟨ax, cx, hvx, _, _, _⟩ := id hp.rx
      subst hvx
      obtain ⟨ay, cy, hvy, _, _, _⟩ := id hp.ry
      subst hvy
      go_wp2_with fail
      obtain ⟨t0, t1, t2, t3, t4, t5, _, _⟩ := hp.drew.cells
      have hlx : LA.length = X.length := by rw [← ex]; simp
      have hly : LB.length = Y.length := by rw [← ey]; simp
      have L1 := BI.len_any hp.drew.a
      have L2 := BI.len_any hp.drew.b
      rw [hlx] at L1
      rw [hly] at L2
      have CL1 := Lib.hid L1
      have CL2 := Lib.hid L2
      have CR1 := Lib.hid (BI.room_any hp.drew.a)
      have CR2 := Lib.hid (BI.room_any hp.drew.b)
      have GW := Lib.hid hp.drew.gw
      clear L1 L2 hlx hly hp HQ1 ex ey
      have q0 : wr.drew.cell? ⟨tb, 0, none⟩ = some (.pointer (some ⟨ba, 0, none⟩)) ∧ wr.drew.cell? ⟨tb, 1, none⟩ = some (.pointer (some ⟨bb, 0, none⟩)) ∧ wr.drew.cell? ⟨tb, 2, none⟩ = some (.slice ax X.length cx) ∧ wr.drew.cell? ⟨tb, 3, none⟩ = some (.slice ay Y.length cy) ∧ wr.drew.cell? ⟨tb, 4, none⟩ = some (.int .i64 (n : Nat)) ∧ wr.drew.cell? ⟨tb, 5, none⟩ = some (.int .i64 (m : Nat)) := ⟨t0, t1, t2, t3, t4, t5⟩
      clear t0 t1 t2 t3 t4 t5
      go_region_held3 (fun w' => w'.cell? ⟨tb, 0, none⟩ = some (.pointer (some ⟨ba, 0, none⟩)) ∧ w'.cell? ⟨tb, 1, none⟩ = some (.pointer (some ⟨bb, 0, none⟩)) ∧ w'.cell? ⟨tb, 2, none⟩ = some (.slice ax X.length cx) ∧ w'.cell? ⟨tb, 3, none⟩ = some (.slice ay Y.length cy) ∧ w'.cell? ⟨tb, 4, none⟩ = some (.int .i64 (n : Nat)) ∧ w'.cell? ⟨tb, 5, none⟩ = some (.int .i64 (m : Nat))) (exact q0)
        (first
          | (go_at_call 13; (with_reducible refine CL1.out.mono ?_); rintro e x1 ⟨rfl, rfl⟩)
          | (go_at_call 13; (with_reducible refine CL2.out.mono ?_); rintro e x1 ⟨rfl, rfl⟩)
          | (go_at_call 14; (with_reducible refine CR1.out.mono ?_); rintro e x1 ⟨rfl, rfl⟩)
          | (go_at_call 14; (with_reducible refine CR2.out.mono ?_); rintro e x1 ⟨rfl, rfl⟩))
      all_goals
        go_wp2
        go_ret
        exact ⟨by simp, GW.out⟩
end Go.Proofs.Ytijgdlanjhcabaa
