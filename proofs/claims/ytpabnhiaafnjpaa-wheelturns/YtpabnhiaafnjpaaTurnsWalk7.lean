/-
  WheelTurns: in whichever order alarms are set, they are told in the same order; the first that is told is for the time that First tells.
-/
import Derived.Test.YtpabnhiaafnjpaaWheelTwo
import Derived.Deep.RegionHeld3
import Derived.Deep.QuietTactic
namespace Go.Proofs.Ytpabnhiaafnjpaa
open Go.RowKit Go.Lib
set_option maxRecDepth 100000
set_option linter.unusedVariables false
set_option maxRecDepth 100000 in
set_option maxHeartbeats 32000000 in
theorem turns_walk7 (now : Nat) (sa1 : Option Addr) (len1 cap1 sb1 off1 : Nat) (zs1 : Nat → Nat) (fin : Nat) (w : World) (hnow : now < 18446744073709551616)
    (_hm1 : len1 ≤ maxLen) (hs1 : 0 < len1 → sa1 = some ⟨sb1, off1, none⟩ ∧ sb1 < w.heap.size) (hz1 : ∀ j, j < len1 → w.cell? ⟨sb1, off1 + j, none⟩ = some (.int .u64 ((zs1 j : Nat) : Int)) ∧ zs1 j < 18446744073709551616) (hfin : fin < 18446744073709551616) :
    Calls Try.prog 7 #[.int .u64 (now : Nat), .slice sa1 len1 cap1, .int .u64 (fin : Nat)] w fun e w' => e = .returned (.bool true) ∧ w.grownBy w' none := by
  have C0 := Lib.hid (alive7 w)
  have R0 : Hid (∀ (v : World) (j : Nat), w.grownBy v none → j < len1 → sa1 = some ⟨sb1, off1, none⟩ ∧ v.cell? ⟨sb1, off1 + j, none⟩ = some (.int .u64 ((zs1 j : Nat) : Int)) ∧ zs1 j < 18446744073709551616) := Lib.hid fun v j k hj => by
    obtain ⟨h1, h2⟩ := hs1 (by omega)
    exact ⟨h1, (k.cell_far ⟨sb1, off1 + j, none⟩ h2 (by simp)).trans (hz1 j hj).1, (hz1 j hj).2⟩
  clear hs1 hz1
  by_cases hl0 : 64 < len1
  · have q : (64 : Int) < (len1 : Int) := by omega
    go_enter Try.func7, Try.ntmps7
    go_wp2_with fail
    refine C0.out.mono ?_
    rintro e w1 ⟨rfl, k1⟩
    go_wp2
    go_ret
    exact ⟨rfl, k1⟩
  have q0 : ¬ (64 : Int) < (len1 : Int) := by omega
  by_cases hn0 : 4611686018427387904 < now
  · have q : (4611686018427387904 : Int) < (now : Int) := by omega
    go_enter Try.func7, Try.ntmps7
    go_wp2_with fail
    refine C0.out.mono ?_
    rintro e w1 ⟨rfl, k1⟩
    go_wp2
    go_ret
    exact ⟨rfl, k1⟩
  have q1 : ¬ (4611686018427387904 : Int) < (now : Int) := by omega
  obtain ⟨f, hf⟩ : ∃ f : Nat → Nat × Nat, f = fun k => (now + zs1 k % 4611686018427387904, zs1 k % 4) := ⟨_, rfl⟩
  have HF : Hid (∀ k, f k = (now + zs1 k % 4611686018427387904, zs1 k % 4)) := Lib.hid fun k => by rw [hf]
  clear hf
  have hme := low62 fin hfin
  obtain ⟨ge, hge⟩ : ∃ g, fin % 4611686018427387904 = g := ⟨_, rfl⟩
  have hgeb : ge < 4611686018427387904 := by omega
  rw [hge] at hme
  clear hge
  go_enter Try.func7, Try.ntmps7
  go_wp2_with fail
  refine C0.out.mono ?_
  rintro e u1 ⟨rfl, k1⟩
  have G1 := Lib.hid k1
  have CN : Hid (∀ v, Calls Try.prog 11 #[.int .i64 (len1 : Nat), .int .u64 (now : Nat)] v fun e w' => ∃ wb, e = .returned (.pointer (some ⟨wb, 0, none⟩)) ∧ v.grownBy w' none ∧ Wl w' v.heap.size w'.heap.size wb len1 now (fun _ => none)) := Lib.hid fun v => by
    have := wl_new (len1 : Int) now hnow v
    rwa [clamp_len len1 (by omega)] at this
  clear k1 C0
  go_wp2_with fail
  refine (CN.out _).mono ?_
  rintro e u2 ⟨ba, rfl, k2, h2⟩
  go_wp2_with fail
  refine (CN.out _).mono ?_
  rintro e u3 ⟨bb, rfl, k3, h3⟩
  have eS : (fun _ => none) = setF f 0 := by funext k; simp [setF]
  have eT : (fun _ => none) = topF f len1 0 := by funext k; simp [topF]
  have HT : Hid (TW w u3 u1.heap.size u2.heap.size ba u2.heap.size u3.heap.size bb len1 now now (setF f 0) (topF f len1 0)) := Lib.hid ⟨eS ▸ h2.kept k3, eT ▸ h3, (G1.out.trans k2).trans k3, G1.out.size, k2.size, Nat.le_refl _, k3.size, Nat.le_refl _⟩
  clear k2 h2 k3 h3 CN G1 eS eT
  go_wp2_with fail
  generalize u1.heap.size = l1 at *
  generalize u2.heap.size = h1 at *
  generalize u3.heap.size = h2 at *
  go_loopw [37] (fun it wr => ∃ k : Nat, k ≤ len1 ∧ it = .int .i64 k ∧ Hid (TW w wr l1 h1 ba h1 h2 bb len1 now now (setF f k) (topF f len1 k))) (fun it _ => len1 - (intOf it).toNat)
  case atStart => exact ⟨0, Nat.zero_le _, rfl, HT⟩
  case round =>
    clear HT
    obtain ⟨k, hk, rfl, H0⟩ := hrel
    by_cases hlt : k < len1
    · obtain ⟨jj, hjj⟩ : ∃ jj, len1 - 1 - k = jj := ⟨_, rfl⟩
      have hjl : jj < len1 := by omega
      have qk : (k : Int) < (len1 : Int) := by omega
      have qj : (jj : Int) < (len1 : Int) := by omega
      have ej : (len1 : Int) - 1 - (k : Int) = (jj : Int) := by omega
      obtain ⟨rfl, ck, zkb⟩ := R0.out wr k H0.out.gw hlt
      obtain ⟨_, cj, zjb⟩ := R0.out wr jj H0.out.gw hjl
      have mk1 := low62 (zs1 k) zkb
      have mk2 := low2 (zs1 k) zkb
      have mj1 := low62 (zs1 jj) zjb
      have mj2 := low2 (zs1 jj) zjb
      have fk := HF.out k
      have fj := HF.out jj
      obtain ⟨gk, hgk⟩ : ∃ g, zs1 k % 4611686018427387904 = g := ⟨_, rfl⟩
      obtain ⟨tk, htk⟩ : ∃ g, zs1 k % 4 = g := ⟨_, rfl⟩
      obtain ⟨gj, hgj⟩ : ∃ g, zs1 jj % 4611686018427387904 = g := ⟨_, rfl⟩
      obtain ⟨tj, htj⟩ : ∃ g, zs1 jj % 4 = g := ⟨_, rfl⟩
      have bk : gk < 4611686018427387904 ∧ tk < 4 := by omega
      have bj : gj < 4611686018427387904 ∧ tj < 4 := by omega
      rw [hgk] at mk1 fk
      rw [htk] at mk2 fk
      rw [hgj] at mj1 fj
      rw [htj] at mj2 fj
      obtain ⟨zk, hzk⟩ : ∃ z, zs1 k = z := ⟨_, rfl⟩
      obtain ⟨zj, hzj⟩ : ∃ z, zs1 jj = z := ⟨_, rfl⟩
      rw [hzk] at ck mk1 mk2
      rw [hzj] at cj mj1 mj2
      have ew1 : IntKind.u64.wrap ((now : Int) + (gk : Int)) = (now : Int) + (gk : Int) := by rw [IntKind.wrap_u64]; omega
      have ew2 : IntKind.u64.wrap ((now : Int) + (gj : Int)) = (now : Int) + (gj : Int) := by rw [IntKind.wrap_u64]; omega
      have HZK := Lib.hid hzk.symm
      have HZJ := Lib.hid hzj.symm
      have kd : wr.grownBy wr.drew none := ⟨rfl, rfl, rfl, Nat.le_refl _, fun _ _ _ => rfl⟩
      have H0d := Lib.hid (H0.out.kept kd)
      have CS := wl_set H0d.out.a k (now + gk) tk hlt (by simp [setF]) (by omega) (by omega)
      rw [show ((now + gk, tk) : Nat × Nat) = f k from fk.symm, setF_step, show ((now + gk : Nat) : Int) = (now : Int) + (gk : Int) by omega] at CS
      have HCS := Lib.hid CS
      have ckd : wr.drew.cell? ⟨sb1, off1 + k, none⟩ = some (.int .u64 (zk : Nat)) := ck
      clear CS ck kd hgk htk hgj htj hzk hzj cj fk H0
      go_wp2_with fail
      refine wp_region_held_drew (S := fun x => x.cell? ⟨sb1, off1 + k, none⟩ = some (.int .u64 (zk : Nat))) (by kernel_rfl) ckd (fun hHeld => ?_)
      refine wpAnyH_take (i := 0) (oi := ⟨_, _, _, _, _, _⟩) (v := ?_) rfl (by kernel_rfl) (by kernel_rfl) (by kernel_rfl) (fun _ _ _ h => h) (Or.inl ⟨by rfl, ?_⟩) (by assumption) ?_
      rotate_left
      · intro wz hSw
        try dsimp only at hSw
        go_simp
        try with_reducible rfl
      simp only [Act.put, List.setIfInBounds_toArray, List.set_cons_zero, List.set_cons_succ]
      refine wpAnyH_take (i := 1) (oi := ⟨_, _, _, _, _, _⟩) (v := ?_) rfl (by kernel_rfl) (by kernel_rfl) (by kernel_rfl) (fun _ _ _ h => h) (Or.inl ⟨by rfl, ?_⟩) (by assumption) ?_
      rotate_left
      · intro wz hSw
        try dsimp only at hSw
        go_simp
        try with_reducible rfl
      simp only [Act.put, List.setIfInBounds_toArray, List.set_cons_zero, List.set_cons_succ]
      refine wpAnyH_take (i := 2) (oi := ⟨_, _, _, _, _, _⟩) (v := ?_) rfl (by kernel_rfl) (by kernel_rfl) (by kernel_rfl) (fun _ _ _ h => h) (Or.inl ⟨by rfl, ?_⟩) (by assumption) ?_
      rotate_left
      · intro wz hSw
        try dsimp only at hSw
        go_simp
        try with_reducible rfl
      simp only [Act.put, List.setIfInBounds_toArray, List.set_cons_zero, List.set_cons_succ]
      refine wpAnyH_take (i := 3) (oi := ⟨_, _, _, _, _, _⟩) (v := ?_) rfl (by kernel_rfl) (by kernel_rfl) (by kernel_rfl) (fun _ _ _ h => h) (Or.inl ⟨by rfl, ?_⟩) (by assumption) ?_
      rotate_left
      · intro wz hSw
        try dsimp only at hSw
        go_simp
        try with_reducible rfl
      simp only [Act.put, List.setIfInBounds_toArray, List.set_cons_zero, List.set_cons_succ]
      refine wpAnyH_take (i := 4) (oi := ⟨_, _, _, _, _, _⟩) (v := ?_) rfl (by kernel_rfl) (by kernel_rfl) (by kernel_rfl) (fun _ _ _ h => h) (Or.inl ⟨by rfl, ?_⟩) (by assumption) ?_
      rotate_left
      · intro wz hSw
        try dsimp only at hSw
        go_simp
        try with_reducible rfl
      simp only [Act.put, List.setIfInBounds_toArray, List.set_cons_zero, List.set_cons_succ]
      refine wpAnyH_take (i := 5) (oi := ⟨_, _, _, _, _, _⟩) (v := ?_) rfl (by kernel_rfl) (by kernel_rfl) (by kernel_rfl) (fun _ _ _ h => h) (Or.inl ⟨by rfl, ?_⟩) (by assumption) ?_
      rotate_left
      · intro wz hSw
        try dsimp only at hSw
        go_simp
        try with_reducible rfl
      simp only [Act.put, List.setIfInBounds_toArray, List.set_cons_zero, List.set_cons_succ]
      refine wpAnyH_take (i := 6) (oi := ⟨_, _, _, _, _, _⟩) (v := ?_) rfl (by kernel_rfl) (by kernel_rfl) (by kernel_rfl) (fun _ _ _ h => h) (Or.inl ⟨by rfl, ?_⟩) (by assumption) ?_
      rotate_left
      · intro wz hSw
        try dsimp only at hSw
        go_simp
        try with_reducible rfl
      simp only [Act.put, List.setIfInBounds_toArray, List.set_cons_zero, List.set_cons_succ]
      refine wpAnyH_take (i := 7) (oi := ⟨_, _, _, _, _, _⟩) (v := ?_) rfl (by kernel_rfl) (by kernel_rfl) (by kernel_rfl) (fun _ _ _ h => h) (Or.inl ⟨by rfl, ?_⟩) (by assumption) ?_
      rotate_left
      · intro wz hSw
        try dsimp only at hSw
        go_simp
        try with_reducible rfl
      simp only [Act.put, List.setIfInBounds_toArray, List.set_cons_zero, List.set_cons_succ]
      refine wpAnyH_take (i := 8) (oi := ⟨_, _, _, _, _, _⟩) (v := ?_) rfl (by kernel_rfl) (by kernel_rfl) (by kernel_rfl) (fun _ _ _ h => h) (Or.inl ⟨by rfl, ?_⟩) (by assumption) ?_
      rotate_left
      · intro wz hSw
        try dsimp only at hSw
        go_simp
        try with_reducible rfl
      simp only [Act.put, List.setIfInBounds_toArray, List.set_cons_zero, List.set_cons_succ]
      refine wpAnyH_take (i := 9) (oi := ⟨_, _, _, _, _, _⟩) (v := ?_) rfl (by kernel_rfl) (by kernel_rfl) (by kernel_rfl) (fun _ _ _ h => h) (Or.inl ⟨by rfl, ?_⟩) (by assumption) ?_
      rotate_left
      · intro wz hSw
        try dsimp only at hSw
        go_simp
        try with_reducible rfl
      simp only [Act.put, List.setIfInBounds_toArray, List.set_cons_zero, List.set_cons_succ]
      refine wpAnyH_take (i := 10) (oi := ⟨_, _, _, _, _, _⟩) (v := ?_) rfl (by kernel_rfl) (by kernel_rfl) (by kernel_rfl) (fun _ _ _ h => h) (Or.inl ⟨by rfl, ?_⟩) (by assumption) ?_
      rotate_left
      · intro wz hSw
        try dsimp only at hSw
        go_simp
        try with_reducible rfl
      simp only [Act.put, List.setIfInBounds_toArray, List.set_cons_zero, List.set_cons_succ]
      refine wpAnyH_take (i := 11) (oi := ⟨_, _, _, _, _, _⟩) (v := ?_) rfl (by kernel_rfl) (by kernel_rfl) (by kernel_rfl) (fun _ _ _ h => h) (Or.inl ⟨by rfl, ?_⟩) (by assumption) ?_
      rotate_left
      · intro wz hSw
        try dsimp only at hSw
        go_simp
        try with_reducible rfl
      simp only [Act.put, List.setIfInBounds_toArray, List.set_cons_zero, List.set_cons_succ]
      refine wpAnyH_take (i := 12) (oi := ⟨_, _, _, _, _, _⟩) (v := ?_) rfl (by kernel_rfl) (by kernel_rfl) (by kernel_rfl) (fun _ _ _ h => h) (Or.inl ⟨by rfl, ?_⟩) (by assumption) ?_
      rotate_left
      · intro wz hSw
        try dsimp only at hSw
        go_simp
        try with_reducible rfl
      simp only [Act.put, List.setIfInBounds_toArray, List.set_cons_zero, List.set_cons_succ]
      refine wpAnyH_take (i := 13) (oi := ⟨_, _, _, _, _, _⟩) (v := ?_) rfl (by kernel_rfl) (by kernel_rfl) (by kernel_rfl) (fun _ _ _ h => h) (Or.inl ⟨by rfl, ?_⟩) (by assumption) ?_
      rotate_left
      · intro wz hSw
        try dsimp only at hSw
        go_simp
        try with_reducible rfl
      simp only [Act.put, List.setIfInBounds_toArray, List.set_cons_zero, List.set_cons_succ]
      refine wpAnyH_ready (rs := [14]) (by kernel_rfl) (by simp) ?_
      refine AllReadyH.cons (o := ⟨_, _, _, _, _, _⟩) rfl (fun K hK => ?_) AllReadyH.nil
      go_simp
      refine HCS.out.mono ?_
      rintro e v1 ⟨rfl, kk, hh⟩
      have H1 := Lib.hid (H0d.out.on_a kk hh)
      have hS : v1.cell? ⟨sb1, off1 + k, none⟩ = some (.int .u64 (zk : Nat)) := by rw [HZK.out]; exact (R0.out v1 k H1.out.gw (by omega)).2.1
      refine hK.out _ _ hS (fun hHeld => ?_)
      clear hK K
      try simp only [Act.put, List.setIfInBounds_toArray, List.set_cons_zero, List.set_cons_succ]
      refine wpAnyH_done (by kernel_rfl) ?_ _
      clear kk hh hHeld hS ckd HCS H0d
      have kd : v1.grownBy v1.drew none := ⟨rfl, rfl, rfl, Nat.le_refl _, fun _ _ _ => rfl⟩
      have H1d := Lib.hid (H1.out.kept kd)
      have CS := wl_set H1d.out.b jj (now + gj) tj hjl (by unfold topF; rw [if_neg (by omega)]) (by omega) (by omega)
      rw [show ((now + gj, tj) : Nat × Nat) = f jj from fj.symm, ← hjj, topF_step f len1 k hlt, hjj, show ((now + gj : Nat) : Int) = (now : Int) + (gj : Int) by omega] at CS
      have HCS2 := Lib.hid CS
      have cjd : v1.drew.cell? ⟨sb1, off1 + jj, none⟩ = some (.int .u64 (zj : Nat)) := by rw [HZJ.out]; exact (R0.out v1 jj H1.out.gw hjl).2.1
      clear CS kd fj hjj H1
      go_wp2_with fail
      refine wp_region_held_drew (S := fun x => x.cell? ⟨sb1, off1 + jj, none⟩ = some (.int .u64 (zj : Nat))) (by kernel_rfl) cjd (fun hHeld => ?_)
      refine wpAnyH_take (i := 0) (oi := ⟨_, _, _, _, _, _⟩) (v := ?_) rfl (by kernel_rfl) (by kernel_rfl) (by kernel_rfl) (fun _ _ _ h => h) (Or.inl ⟨by rfl, ?_⟩) (by assumption) ?_
      rotate_left
      · intro wz hSw
        try dsimp only at hSw
        go_simp
        try with_reducible rfl
      simp only [Act.put, List.setIfInBounds_toArray, List.set_cons_zero, List.set_cons_succ]
      refine wpAnyH_take (i := 1) (oi := ⟨_, _, _, _, _, _⟩) (v := ?_) rfl (by kernel_rfl) (by kernel_rfl) (by kernel_rfl) (fun _ _ _ h => h) (Or.inl ⟨by rfl, ?_⟩) (by assumption) ?_
      rotate_left
      · intro wz hSw
        try dsimp only at hSw
        go_simp
        try with_reducible rfl
      simp only [Act.put, List.setIfInBounds_toArray, List.set_cons_zero, List.set_cons_succ]
      refine wpAnyH_take (i := 2) (oi := ⟨_, _, _, _, _, _⟩) (v := ?_) rfl (by kernel_rfl) (by kernel_rfl) (by kernel_rfl) (fun _ _ _ h => h) (Or.inl ⟨by rfl, ?_⟩) (by assumption) ?_
      rotate_left
      · intro wz hSw
        try dsimp only at hSw
        go_simp
        try with_reducible rfl
      simp only [Act.put, List.setIfInBounds_toArray, List.set_cons_zero, List.set_cons_succ]
      refine wpAnyH_take (i := 3) (oi := ⟨_, _, _, _, _, _⟩) (v := ?_) rfl (by kernel_rfl) (by kernel_rfl) (by kernel_rfl) (fun _ _ _ h => h) (Or.inl ⟨by rfl, ?_⟩) (by assumption) ?_
      rotate_left
      · intro wz hSw
        try dsimp only at hSw
        go_simp
        try with_reducible rfl
      simp only [Act.put, List.setIfInBounds_toArray, List.set_cons_zero, List.set_cons_succ]
      refine wpAnyH_take (i := 4) (oi := ⟨_, _, _, _, _, _⟩) (v := ?_) rfl (by kernel_rfl) (by kernel_rfl) (by kernel_rfl) (fun _ _ _ h => h) (Or.inl ⟨by rfl, ?_⟩) (by assumption) ?_
      rotate_left
      · intro wz hSw
        try dsimp only at hSw
        go_simp
        try with_reducible rfl
      simp only [Act.put, List.setIfInBounds_toArray, List.set_cons_zero, List.set_cons_succ]
      refine wpAnyH_take (i := 5) (oi := ⟨_, _, _, _, _, _⟩) (v := ?_) rfl (by kernel_rfl) (by kernel_rfl) (by kernel_rfl) (fun _ _ _ h => h) (Or.inl ⟨by rfl, ?_⟩) (by assumption) ?_
      rotate_left
      · intro wz hSw
        try dsimp only at hSw
        go_simp
        try with_reducible rfl
      simp only [Act.put, List.setIfInBounds_toArray, List.set_cons_zero, List.set_cons_succ]
      refine wpAnyH_take (i := 6) (oi := ⟨_, _, _, _, _, _⟩) (v := ?_) rfl (by kernel_rfl) (by kernel_rfl) (by kernel_rfl) (fun _ _ _ h => h) (Or.inl ⟨by rfl, ?_⟩) (by assumption) ?_
      rotate_left
      · intro wz hSw
        try dsimp only at hSw
        go_simp
        try with_reducible rfl
      simp only [Act.put, List.setIfInBounds_toArray, List.set_cons_zero, List.set_cons_succ]
      refine wpAnyH_take (i := 7) (oi := ⟨_, _, _, _, _, _⟩) (v := ?_) rfl (by kernel_rfl) (by kernel_rfl) (by kernel_rfl) (fun _ _ _ h => h) (Or.inl ⟨by rfl, ?_⟩) (by assumption) ?_
      rotate_left
      · intro wz hSw
        try dsimp only at hSw
        go_simp
        try with_reducible rfl
      simp only [Act.put, List.setIfInBounds_toArray, List.set_cons_zero, List.set_cons_succ]
      refine wpAnyH_take (i := 8) (oi := ⟨_, _, _, _, _, _⟩) (v := ?_) rfl (by kernel_rfl) (by kernel_rfl) (by kernel_rfl) (fun _ _ _ h => h) (Or.inl ⟨by rfl, ?_⟩) (by assumption) ?_
      rotate_left
      · intro wz hSw
        try dsimp only at hSw
        go_simp
        try with_reducible rfl
      simp only [Act.put, List.setIfInBounds_toArray, List.set_cons_zero, List.set_cons_succ]
      refine wpAnyH_take (i := 9) (oi := ⟨_, _, _, _, _, _⟩) (v := ?_) rfl (by kernel_rfl) (by kernel_rfl) (by kernel_rfl) (fun _ _ _ h => h) (Or.inl ⟨by rfl, ?_⟩) (by assumption) ?_
      rotate_left
      · intro wz hSw
        try dsimp only at hSw
        go_simp
        try with_reducible rfl
      simp only [Act.put, List.setIfInBounds_toArray, List.set_cons_zero, List.set_cons_succ]
      refine wpAnyH_take (i := 10) (oi := ⟨_, _, _, _, _, _⟩) (v := ?_) rfl (by kernel_rfl) (by kernel_rfl) (by kernel_rfl) (fun _ _ _ h => h) (Or.inl ⟨by rfl, ?_⟩) (by assumption) ?_
      rotate_left
      · intro wz hSw
        try dsimp only at hSw
        go_simp
        try with_reducible rfl
      simp only [Act.put, List.setIfInBounds_toArray, List.set_cons_zero, List.set_cons_succ]
      refine wpAnyH_take (i := 11) (oi := ⟨_, _, _, _, _, _⟩) (v := ?_) rfl (by kernel_rfl) (by kernel_rfl) (by kernel_rfl) (fun _ _ _ h => h) (Or.inl ⟨by rfl, ?_⟩) (by assumption) ?_
      rotate_left
      · intro wz hSw
        try dsimp only at hSw
        go_simp
        try with_reducible rfl
      simp only [Act.put, List.setIfInBounds_toArray, List.set_cons_zero, List.set_cons_succ]
      refine wpAnyH_take (i := 12) (oi := ⟨_, _, _, _, _, _⟩) (v := ?_) rfl (by kernel_rfl) (by kernel_rfl) (by kernel_rfl) (fun _ _ _ h => h) (Or.inl ⟨by rfl, ?_⟩) (by assumption) ?_
      rotate_left
      · intro wz hSw
        try dsimp only at hSw
        go_simp
        try with_reducible rfl
      simp only [Act.put, List.setIfInBounds_toArray, List.set_cons_zero, List.set_cons_succ]
      refine wpAnyH_take (i := 13) (oi := ⟨_, _, _, _, _, _⟩) (v := ?_) rfl (by kernel_rfl) (by kernel_rfl) (by kernel_rfl) (fun _ _ _ h => h) (Or.inl ⟨by rfl, ?_⟩) (by assumption) ?_
      rotate_left
      · intro wz hSw
        try dsimp only at hSw
        go_simp
        try with_reducible rfl
      simp only [Act.put, List.setIfInBounds_toArray, List.set_cons_zero, List.set_cons_succ]
      refine wpAnyH_ready (rs := [14]) (by kernel_rfl) (by simp) ?_
      refine AllReadyH.cons (o := ⟨_, _, _, _, _, _⟩) rfl (fun K hK => ?_) AllReadyH.nil
      go_simp
      refine HCS2.out.mono ?_
      rintro e v2 ⟨rfl, kk, hh⟩
      have H2 := Lib.hid (H1d.out.on_b kk hh)
      have hS : v2.cell? ⟨sb1, off1 + jj, none⟩ = some (.int .u64 (zj : Nat)) := by rw [HZJ.out]; exact (R0.out v2 jj H2.out.gw (by omega)).2.1
      refine hK.out _ _ hS (fun hHeld => ?_)
      clear hK K
      try simp only [Act.put, List.setIfInBounds_toArray, List.set_cons_zero, List.set_cons_succ]
      refine wpAnyH_done (by kernel_rfl) ?_ _
      clear kk hh hHeld hS cjd HCS2 H1d
      go_wp2
      go_roundw
      case rel => exact ⟨k + 1, hlt, by go_num, H2⟩
      case measure => simp [intOf]; omega
    · obtain rfl : k = len1 := by omega
      rw [topF_all] at H0
      have HML : Hid ((now : Int) + (ge : Int) = ((now + ge : Nat) : Int)) := Lib.hid (by omega)
      have HMX : Hid (max now (now + ge) = now + ge) := Lib.hid (by omega)
      have htg : now + ge < 18446744073709551616 := by omega
      have qk64 : k ≤ 64 := by omega
      have HGE := Lib.hid hgeb
      rcases Nat.eq_zero_or_pos k with hk0 | hk0
      · have hS : ∀ j, setF f k j = none := fun j => by unfold setF; rw [if_neg (by omega)]
        have CF := Lib.hid (wl_first_none H0.out.a hS)
        have qz : decide ((0 : Int) < (k : Int)) = false := by rw [decide_eq_false_iff_not]; omega
        go_wp2_with fail
        refine CF.out.mono ?_
        rintro e v1 ⟨rfl, k1⟩
        have H1 := Lib.hid (H0.out.kept k1)
        have CA := wl_to H1.out.a (now + ge) htg (by have := H1.out.o; omega)
        rw [HMX.out, ← HML.out] at CA
        have CA1 := Lib.hid CA
        clear CF k1 H0 CA
        go_wp2_with fail
        refine CA1.out.mono ?_
        rintro e v2 ⟨R1, r1, cp1, rfl, row1, kk1, wl1, nd1, m1, s1⟩
        have e1 : R1 = [] := List.eq_nil_iff_forall_not_mem.2 fun j hj => by
          have := ((m1 j).1 hj).1
          omega
        subst e1
        have H2 := Lib.hid (H1.out.on_a kk1 wl1)
        have ROW := Lib.hid row1
        have CB := wl_to H2.out.b (now + ge) htg (by have := H2.out.o; omega)
        rw [HMX.out, ← HML.out] at CB
        have CB1 := Lib.hid CB
        have hr1 := ROW.out.lt.1
        have hr2 := Lib.hid (show h2 ≤ r1 by have := H1.out.o; omega)
        clear CA1 row1 kk1 wl1 nd1 m1 s1 H1 CB hr1
        go_wp2_with fail
        refine CB1.out.mono ?_
        rintro e v3 ⟨R2, r2, cp2, rfl, row2, kk2, wl2, nd2, m2, s2⟩
        have e2 : R2 = [] := List.eq_nil_iff_forall_not_mem.2 fun j hj => by
          have := ((m2 j).1 hj).1
          omega
        subst e2
        have H3 := Lib.hid (H2.out.on_b kk2 wl2)
        have ROW3 := Lib.hid (ROW.out.only kk2 (Or.inr hr2.out))
        have ROW4 := Lib.hid row2
        have CS := Lib.hid (same_yes ROW3.out.reads ROW4.out.reads (by simp))
        clear CB1 row2 kk2 wl2 nd2 m2 s2 H2 ROW
        go_wp2_with fail
        refine CS.out.mono ?_
        rintro e v4 ⟨rfl, k4⟩
        have H4 := Lib.hid (H3.out.kept k4)
        clear CS k4 H3 ROW3 ROW4 hr2
        go_wp2
        go_ret
        exact ⟨rfl, H4.out.gw⟩
      · obtain ⟨km, hkm, hleast⟩ := least_in f k hk0
        have hSm : setF f k km = some (f km) := by unfold setF; rw [if_pos hkm]
        have CF := Lib.hid (wl_first_some H0.out.a km (f km) hkm hSm fun j v hv => by
          unfold setF at hv
          by_cases hj : j < k
          · rw [if_pos hj] at hv; injection hv with hv; rw [← hv]; exact hleast j hj
          · rw [if_neg hj] at hv; cases hv)
        have qz : decide ((0 : Int) < (k : Int)) = true := by rw [decide_eq_true_iff]; omega
        obtain ⟨F1, hF1⟩ : ∃ F1, (f km).1 = F1 := ⟨_, rfl⟩
        rw [hF1] at CF
        have HL := Lib.hid hleast
        have HF1 := Lib.hid hF1
        clear hleast hF1
        go_wp2_with fail
        refine CF.out.mono ?_
        rintro e v1 ⟨rfl, k1⟩
        have H1 := Lib.hid (H0.out.kept k1)
        have CA := wl_to H1.out.a (now + ge) htg (by have := H1.out.o; omega)
        rw [HMX.out, ← HML.out] at CA
        have CA1 := Lib.hid CA
        clear CF k1 H0 CA
        go_wp2_with fail
        refine CA1.out.mono ?_
        rintro e v2 ⟨R1, r1, cp1, rfl, row1, kk1, wl1, nd1, m1, s1⟩
        have H2 := Lib.hid (H1.out.on_a kk1 wl1)
        have ROW := Lib.hid row1
        have CB := wl_to H2.out.b (now + ge) htg (by have := H2.out.o; omega)
        rw [HMX.out, ← HML.out] at CB
        have CB1 := Lib.hid CB
        have hr1 := ROW.out.lt.1
        have hr2 := Lib.hid (show h2 ≤ r1 by have := H1.out.o; omega)
        have M1 := Lib.hid m1
        have N1 := Lib.hid nd1
        have S1 := Lib.hid s1
        have hval : ∀ j, j < k → valS (setF f k) j = f j := fun j hj => by unfold valS setF; rw [if_pos hj]; rfl
        have hdue : ∀ j, j ∈ R1 ↔ j < k ∧ (f j).1 ≤ now + ge := fun j => by
          rw [m1 j]
          unfold dueS setF
          constructor
          · rintro ⟨h1, v, h2, h3⟩
            rw [if_pos h1] at h2
            injection h2 with h2
            exact ⟨h1, by rw [h2]; exact h3⟩
          · rintro ⟨h1, h2⟩
            exact ⟨h1, f j, by rw [if_pos h1], h2⟩
        have HD := Lib.hid hdue
        have HV := Lib.hid hval
        have hlen : R1.length ≤ 1000000 := by
          have h1 : R1.length ≤ k := few_of_nodup k R1 nd1 fun j hj => ((hdue j).1 hj).1
          omega
        have HLEN := Lib.hid hlen
        clear CA1 row1 kk1 wl1 nd1 m1 s1 H1 CB hr1 hval hdue hlen
        obtain ⟨m, hm⟩ : ∃ m, R1.length = m := ⟨_, rfl⟩
        rw [hm]
        have HM := Lib.hid hm
        clear hm
        go_wp2_with fail
        refine CB1.out.mono ?_
        rintro e v3 ⟨R2, r2, cp2, rfl, row2, kk2, wl2, nd2, m2, s2⟩
        have e2 : R2 = R1 := due_eq nd2 N1.out m2 M1.out s2 S1.out
        subst e2
        have H3 := Lib.hid (H2.out.on_b kk2 wl2)
        have ROW3 := Lib.hid (ROW.out.only kk2 (Or.inr hr2.out))
        have ROW4 := Lib.hid row2
        have CS := same_yes ROW3.out.reads ROW4.out.reads HLEN.out
        rw [HM.out] at CS
        have CS1 := Lib.hid CS
        clear CB1 row2 kk2 wl2 nd2 m2 s2 H2 ROW CS
        rw [HM.out]
        go_wp2_with fail
        refine CS1.out.mono ?_
        rintro e v4 ⟨rfl, k4⟩
        have H4 := Lib.hid (H3.out.kept k4)
        have ROW5 := Lib.hid (ROW3.out.kept k4 (by simp))
        clear CS1 k4 H3 ROW3 ROW4 hr2
        cases R2 with
        | nil =>
          have hm0 : m = 0 := HM.out.symm
          have q1 : ((m : Int) == 0) = true := by subst hm0; rfl
          have q2 : decide ((m : Int) = 0) = true := by subst hm0; rfl
          have hlate : now + ge < F1 := by
            have := (HD.out km).2
            have h := Nat.lt_of_not_le fun h => by have := this ⟨hkm, h⟩; cases this
            rw [HF1.out] at h
            exact h
          have q3 : decide ((now : Int) + (ge : Int) < (F1 : Int)) = true := by rw [decide_eq_true_iff]; omega
          clear hm0 hlate
          go_wp2
          go_ret
          exact ⟨rfl, H4.out.gw⟩
        | cons x r =>
          have hmp : 0 < m := by rw [← HM.out]; simp
          have q1 : ((m : Int) == 0) = false := by simp; omega
          have q2 : decide ((m : Int) = 0) = false := by simp; omega
          have q4 : (0 : Int) < (m : Int) := by omega
          obtain ⟨hxk, hxe⟩ := (HD.out x).1 (List.mem_cons_self ..)
          obtain ⟨hsa, cx, zxb⟩ := R0.out v4 x H4.out.gw hxk
          subst hsa
          have qx : (x : Int) < (k : Int) := by omega
          have cr : v4.cell? ⟨r1, 0, none⟩ = some (.int .i64 (x : Int)) := ROW5.out.cell 0 (by simp)
          have mx1 := low62 (zs1 x) zxb
          have fx := HF.out x
          obtain ⟨gx, hgx⟩ : ∃ g, zs1 x % 4611686018427387904 = g := ⟨_, rfl⟩
          have bx : gx < 4611686018427387904 := by omega
          rw [hgx] at mx1 fx
          obtain ⟨zx, hzx⟩ : ∃ z, zs1 x = z := ⟨_, rfl⟩
          rw [hzx] at cx mx1
          have ewx : IntKind.u64.wrap ((now : Int) + (gx : Int)) = (now : Int) + (gx : Int) := by rw [IntKind.wrap_u64]; omega
          have hfirst : F1 = now + gx := by
            have h1 := HL.out x hxk
            have hkr : km ∈ x :: r := (HD.out km).2 ⟨hkm, by rw [fx] at hxe; rw [fx] at h1; simp only at h1 hxe; omega⟩
            have h2 : (f x).1 ≤ (f km).1 := by
              rcases List.mem_cons.1 hkr with h | h
              · rw [h]; exact Nat.le_refl _
              · have := (List.pairwise_cons.1 S1.out).1 km h
                unfold ltA at this
                rw [HV.out x hxk, HV.out km hkm] at this
                omega
            rw [fx] at h1 h2
            rw [HF1.out] at h1 h2
            simp only at h1 h2
            omega
          have q5 : ((F1 : Int) == (now : Int) + (gx : Int)) = true := by rw [hfirst]; simp
          have q6 : decide ((F1 : Int) = (now : Int) + (gx : Int)) = true := by rw [hfirst]; simp
          clear hgx hzx fx hfirst hxe hmp
          go_wp2
          go_ret
          exact ⟨by simp only [q5, q6] <;> first | rfl | simp, H4.out.gw⟩
end Go.Proofs.Ytpabnhiaafnjpaa
