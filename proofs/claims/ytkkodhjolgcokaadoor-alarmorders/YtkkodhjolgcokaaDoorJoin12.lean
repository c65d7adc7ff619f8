/-
  Texts of one claim, joined, one behind the other.
-/
import Derived.Test.YtkkodhjolgcokaaDoorJoin11
import Derived.Test.YtkkodhjolgcokaaDoorJoin6
/-
  A wheel as an object: To.
-/
namespace Go.Proofs.YtkkodhjolgcokaaDoor
open Go.RowKit Go.Lib Go.Sort
set_option maxRecDepth 100000
set_option linter.unusedVariables false
/-- Those of a row are set no more. -/
def offS (S : Nat → Option (Nat × Nat)) (R : List Nat) : Nat → Option (Nat × Nat) := fun k => if k ∈ R then none else S k
/-- An alarm is due at a time. -/
def dueS (S : Nat → Option (Nat × Nat)) (n t k : Nat) : Prop := k < n ∧ ∃ v, S k = some v ∧ v.1 ≤ t
/-- What each alarm is set for, as a pair. -/
def valS (S : Nat → Option (Nat × Nat)) (k : Nat) : Nat × Nat := (S k).getD (0, 0)
theorem slotN_zero {now t : Nat} (ht : t < 18446744073709551616) (hn : now < 18446744073709551616) : slotN now t = 0 ↔ t ≤ now := by
  rw [← row_zero ht hn]
  unfold slotN
  constructor
  · intro h; omega
  · intro h; rw [h]; rfl
theorem due_mem {w : World} {wb ab lb n now : Nat} {A : Nat → Nat × Nat} {L : Nat → List Nat} {C pl : Nat → Nat} {S : Nat → Option (Nat × Nat)} (M : WhMem w wb ab lb n now A L C) (I : WInv n A L C S pl) (P : ∀ k v, k < n → S k = some v → pl k = slotN now v.1) (k : Nat) : k ∈ L 0 ↔ k < n ∧ ∃ v, S k = some v ∧ v.1 ≤ now := by
  constructor
  · intro h
    obtain ⟨h1, ⟨v, h2⟩, h3⟩ := I.is 0 (by omega) k h
    have hp := P k v h1 h2
    have hv : v.1 < 18446744073709551616 := by have := (M.bd.2 k h1).1; rw [(I.on k v h1 h2).1] at this; exact this
    exact ⟨h1, v, h2, (slotN_zero hv M.bd.1).1 (by omega)⟩
  · rintro ⟨h1, v, h2, h3⟩
    have hp := P k v h1 h2
    have hv : v.1 < 18446744073709551616 := by have := (M.bd.2 k h1).1; rw [(I.on k v h1 h2).1] at this; exact this
    have := (I.on k v h1 h2).2.2
    rwa [hp, (slotN_zero hv M.bd.1).2 h3] at this
theorem row_frozen {w : World} {B r cp : Nat} {F : List Nat} (h : RowOf w B r cp F) (j : Nat) : w.frozen? ⟨r, j, none⟩ = false := by
  obtain ⟨_, hr2⟩ := h
  rcases hr2 with ⟨h0, _⟩ | ⟨g, cap, cur, hv, hb, hg, hn, hm, hsz, ht⟩
  · cases h0
  injection hv with e1 _ _
  injection e1 with e1
  injection e1 with e1
  subst e1
  unfold World.frozen?
  simp [hg]
theorem only_row {lo hi g : Nat} {a b c : World} (h : Only lo hi a b) (k : b.grownBy c (some g)) (hg : a.heap.size ≤ g) : Only lo hi a c :=
  ⟨k.os.trans h.os, k.tape.trans h.tape, k.output.trans h.output, Nat.le_trans h.size k.size, fun i hi hr => (k.block i (Nat.lt_of_lt_of_le hi h.size) (by intro e; injection e with e; omega)).trans (h.block i hi hr)⟩
theorem offS_step (S : Nat → Option (Nat × Nat)) (R : List Nat) (i : Nat) (hi : i < R.length) : upS (offS S (R.take i)) R[i] none = offS S (R.take (i + 1)) := by
  funext k
  have hm : k ∈ R.take (i + 1) ↔ k ∈ R.take i ∨ k = R[i] := by rw [List.take_succ_eq_append_getElem hi, List.mem_append, List.mem_singleton]
  unfold upS offS
  by_cases h : k = R[i]
  · rw [if_pos h, if_pos (hm.2 (Or.inr h))]
  · rw [if_neg h]
    by_cases h2 : k ∈ R.take i
    · rw [if_pos h2, if_pos (hm.2 (Or.inl h2))]
    · rw [if_neg h2, if_neg (fun h3 => (hm.1 h3).elim h2 h)]
section
variable {w w' : World} {lo hi wb n now : Nat} {S : Nat → Option (Nat × Nat)}
set_option maxRecDepth 100000 in
set_option maxHeartbeats 16000000 in
theorem wl_to (H : Wl w lo hi wb n now S) (tg : Nat) (htg : tg < 18446744073709551616) (hhw : hi ≤ w.heap.size) :
    Calls Tryd.prog 26 #[.pointer (some ⟨wb, 0, none⟩), .int .u64 (tg : Nat)] w fun e w' => ∃ (R : List Nat) (r cp : Nat), e = .returned (.slice (some ⟨r, 0, none⟩) R.length cp) ∧ RowOf w' w.heap.size r cp R ∧ Only lo hi w w' ∧ Wl w' lo hi wb n (max now tg) (offS S R) ∧ R.Nodup ∧ (∀ k, k ∈ R ↔ dueS S n (max now tg) k) ∧ R.Pairwise fun a b => ¬ ltA (valS S) b a := by
  have hmf : ∀ (fn : Fn) (first cap : Array Value) (w : World), (Instr.makeFunc fn first cap).run Tryd.prog w = .ok (.func fn first cap) w := fun _ _ _ _ => rfl
  have ka := World.grownBy_alloc w (.cells #[.pointer (some ⟨wb, 0, none⟩)] 53) none
  have H0 := H.kept ka
  have x0 : (w.alloc (.cells #[.pointer (some ⟨wb, 0, none⟩)] 53)).cell? ⟨w.heap.size, 0, none⟩ = some (.pointer (some ⟨wb, 0, none⟩)) := World.cell?_alloc_at _ _ _ 0 rfl
  have hs0 : (w.alloc (.cells #[.pointer (some ⟨wb, 0, none⟩)] 53)).heap.size = w.heap.size + 1 := World.size_alloc ..
  have k0 : Only lo hi w (w.alloc (.cells #[.pointer (some ⟨wb, 0, none⟩)] 53)) := Only.of_none ka
  have c0 : (w.alloc (.cells #[.pointer (some ⟨wb, 0, none⟩)] 53)).cell? ⟨wb, 0, none⟩ = some (.int .u64 (now : Nat)) := by
    obtain ⟨ab, lb, A, L, C, pl, M, _⟩ := id H0
    exact M.c0
  have HH0 := Lib.hid H0
  have KK0 := Lib.hid k0
  clear ka H0 k0 H
  by_cases hlt : now < tg
  · have q0 : (now : Int) < (tg : Int) := by omega
    rw [show max now tg = tg by omega]
    have CG := Lib.hid (wl_goOn HH0.out tg htg hlt (by omega))
    go_enter Tryd.func26, Tryd.ntmps26
    go_wp2_with fail
    generalize w.alloc (.cells #[.pointer (some ⟨wb, 0, none⟩)] 53) = u0 at *
    refine CG.out.mono ?_
    rintro e u1 ⟨⟨v, rfl⟩, k1, H1⟩
    have K1 := Lib.hid (KK0.out.trans k1)
    have HH1 := Lib.hid H1
    replace x0 := (k1.cell ⟨w.heap.size, 0, none⟩ (by show w.heap.size < _; omega) (Or.inr hhw)).trans x0
    have hs1 : w.heap.size + 1 ≤ u1.heap.size := by have := k1.size; omega
    clear k1 H1 CG HH0 KK0 c0 hs0 htg hlt q0
    obtain ⟨ab, lb, A, L, C, pl, M, I, P, hn, ha1, ha2, ha3⟩ := id HH1.out
    have c2 := M.c2
    have II := Lib.hid I
    have kd : u1.grownBy u1.drew none := ⟨rfl, rfl, rfl, Nat.le_refl _, fun _ _ _ => rfl⟩
    have MD := Lib.hid (M.kept kd)
    have hmem := Lib.hid (due_mem M I P)
    have hb0 : ∀ k ∈ L 0, k < n := fun k hk => (I.is 0 (by omega) k hk).1
    have HB0 := Lib.hid hb0
    have hnd := Lib.hid (I.nd 0 (by omega))
    have hwl := M.l
    have hll : (L 0).length ≤ 4096 := Nat.le_trans (few_of_nodup n (L 0) (I.nd 0 (by omega)) hb0) hn
    have CL : Hid (∀ v : World, Calls Tryd.prog 44 #[.int .i64 0, .int .i64 0] v fun e w' => e = .returned (.int .i64 0) ∧ v = w') := Lib.hid fun v => listOf_any 0 0 v (by omega) (by omega)
    have CA : Hid (Calls Tryd.prog 47 #[.pointer (some ⟨lb + 4, 0, none⟩), .int .i64 0] u1.drew _) := Lib.hid (all_in 0 MD.out.links (by omega))
    have HD := Lib.hid (HH1.out.kept kd)
    have KD := Lib.hid (K1.out.trans (Only.drew lo hi u1))
    clear M I P hb0 kd HH1 K1
    go_wp2_with fail
    refine wp_region_held_drew (S := fun x => x.cell? ⟨w.heap.size, 0, none⟩ = some (.pointer (some ⟨wb, 0, none⟩)) ∧ x.cell? ⟨wb, 2, none⟩ = some (.pointer (some ⟨lb + 4, 0, none⟩))) (by kernel_rfl) ⟨x0, c2⟩ (fun hHeld => ?_)
    refine wpAnyH_take (i := 0) (oi := ⟨_, _, _, _, _, _⟩) (v := ?_) rfl (by kernel_rfl) (by kernel_rfl) (by kernel_rfl) (fun _ _ _ h => h) (Or.inl ⟨by rfl, ?_⟩) (by assumption) ?_
    rotate_left
    · intro wz hSw
      try dsimp only at hSw
      go_simp
      try with_reducible rfl
    simp only [Act.put, List.setIfInBounds_toArray, List.set_cons_zero, List.set_cons_succ]
    refine wpAnyH_take (i := 1) (oi := ⟨_, _, _, _, _, _⟩) (v := ?_) rfl (by kernel_rfl) (by kernel_rfl) (by kernel_rfl) (fun _ _ _ h => h) (Or.inl ⟨by rfl, ?_⟩) (by assumption) ?_
    rotate_left
    · intro wz hSw
      try dsimp only at hSw
      go_simp
      try with_reducible rfl
    simp only [Act.put, List.setIfInBounds_toArray, List.set_cons_zero, List.set_cons_succ]
    refine wpAnyH_take (i := 2) (oi := ⟨_, _, _, _, _, _⟩) (v := ?_) rfl (by kernel_rfl) (by kernel_rfl) (by kernel_rfl) (fun _ _ _ h => h) (Or.inl ⟨by rfl, ?_⟩) (by assumption) ?_
    rotate_left
    · intro wz hSw
      try dsimp only at hSw
      go_simp
      try with_reducible rfl
    simp only [Act.put, List.setIfInBounds_toArray, List.set_cons_zero, List.set_cons_succ]
    refine wpAnyH_take (i := 3) (oi := ⟨_, _, _, _, _, _⟩) (v := ?_) rfl (by kernel_rfl) (by kernel_rfl) (by kernel_rfl) (fun _ _ _ h => h) (Or.inl ⟨by rfl, ?_⟩) (by assumption) ?_
    rotate_left
    · intro wz hSw
      try dsimp only at hSw
      go_simp
      try with_reducible rfl
    simp only [Act.put, List.setIfInBounds_toArray, List.set_cons_zero, List.set_cons_succ]
    refine wpAnyH_ready (rs := [4]) (by kernel_rfl) (by simp) ?_
    refine AllReadyH.cons (o := ⟨_, _, _, _, _, _⟩) rfl (fun K hK => ?_) AllReadyH.nil
    go_simp
    refine (CL.out _).mono ?_
    rintro e w' ⟨rfl, rfl⟩
    refine hK.out _ _ hHeld (fun hHeld => ?_)
    clear hK K
    try simp only [Act.put, List.setIfInBounds_toArray, List.set_cons_zero, List.set_cons_succ]
    refine wpAnyH_ready (rs := [5]) (by kernel_rfl) (by simp) ?_
    refine AllReadyH.cons (o := ⟨_, _, _, _, _, _⟩) rfl (fun K hK => ?_) AllReadyH.nil
    go_simp
    refine CA.out.mono ?_
    rintro e u3 ⟨r, cp, rfl, k3, hrow⟩
    have M3 := Lib.hid (MD.out.kept k3)
    have H3 := Lib.hid (HD.out.kept k3)
    have K3 := Lib.hid (KD.out.into k3)
    have y0 : u3.cell? ⟨w.heap.size, 0, none⟩ = some (.pointer (some ⟨wb, 0, none⟩)) := k3.cell (show u1.drew.cell? ⟨w.heap.size, 0, none⟩ = _ from x0) (by simp)
    have y2 : u3.cell? ⟨wb, 2, none⟩ = some (.pointer (some ⟨lb + 4, 0, none⟩)) := k3.cell (show u1.drew.cell? ⟨wb, 2, none⟩ = _ from c2) (by simp)
    have hrl : u1.heap.size ≤ r := hrow.lt.1
    refine hK.out _ _ ⟨y0, y2⟩ (fun hHeld => ?_)
    clear hK K
    try simp only [Act.put, List.setIfInBounds_toArray, List.set_cons_zero, List.set_cons_succ]
    refine wpAnyH_ready (rs := [6]) (by kernel_rfl) (by simp) ?_
    refine AllReadyH.cons (o := ⟨_, _, _, _, _, _⟩) rfl (fun K hK => ?_) AllReadyH.nil
    go_simp
    refine hK.out _ _ ⟨y0, y2⟩ (fun hHeld => ?_)
    clear hK K
    try simp only [Act.put, List.setIfInBounds_toArray, List.set_cons_zero, List.set_cons_succ]
    refine wpAnyH_done (by kernel_rfl) ?_ _
    have SC := Lib.hid (sort_call (cp := cp) (xb := w.heap.size) A HB0.out hn hrow (row_frozen hrow) (by omega) (by have := hwl.1; omega) (by have := hwl.2; omega) y0 M3.out.c1 M3.out.a0 hll)
    clear MD HD KD CA CL x0 c2 k3 y2 hrow
    go_wp2_with fail
    refine SC.out.mono ?_
    rintro e u4 ⟨rfl, hr4, k4⟩
    obtain ⟨R, hR⟩ : ∃ R, ordered A n (L 0) HB0.out = R := ⟨_, rfl⟩
    have hperm := ordered_perm A n (L 0) HB0.out
    have hsort := ordered_sorted A n (L 0) HB0.out
    rw [hR] at hr4 hperm hsort
    have HRP := Lib.hid hperm
    have HRS := Lib.hid hsort
    have hRl : R.length = (L 0).length := hperm.length_eq
    have HRL := Lib.hid hRl
    have HRO := Lib.hid (hr4.mono (show w.heap.size ≤ u1.heap.size by omega))
    have H4 := Lib.hid (H3.out.only (Only.of_some (lo := r) (hi := r + 1) k4 (Nat.le_refl _) (Nat.lt_succ_self _)) (Or.inl (by omega)))
    have K4 := Lib.hid (only_row K3.out k4 (by omega))
    have z0 := k4.cell y0 (by intro e; have e : some w.heap.size = some r := e; injection e with e; omega)
    have Z0 := Lib.hid z0
    have hz4 : Hid (w.heap.size < u4.heap.size ∧ r < u4.heap.size) := Lib.hid ⟨by have := K4.out.size; have := hr4.lt.2; omega, hr4.lt.2⟩
    clear hperm hsort hRl hr4 k4 y0 z0 SC H3 K3 M3 hR hrl
    go_wp2_with fail
    go_loopw [28] (fun it wr => ∃ i : Nat, i ≤ (L 0).length ∧ it = .int .i64 i ∧ Hid (Wl wr lo hi wb n tg (offS S (R.take i))) ∧ Hid (RowOf wr w.heap.size r cp R) ∧ Hid (wr.cell? ⟨w.heap.size, 0, none⟩ = some (.pointer (some ⟨wb, 0, none⟩))) ∧ Hid (Only lo hi w wr) ∧ Hid (w.heap.size < wr.heap.size)) (fun it _ => (L 0).length - (intOf it).toNat)
    case atStart =>
      refine ⟨0, Nat.zero_le _, rfl, ?_, HRO, Z0, K4, Lib.hid hz4.out.1⟩
      have e : offS S (R.take 0) = S := by funext k; simp [offS]
      rw [e]
      exact H4
    case round =>
      clear H4 HRO Z0 K4 hz4
      obtain ⟨i, hi', rfl, H5, HRO, Z0, K5, HZ⟩ := hrel
      by_cases hlt : i < (L 0).length
      · have qi : (i : Int) < ((L 0).length : Int) := by omega
        have hltR : i < R.length := by rw [HRL.out]; exact hlt
        have hc := HRO.out.cell i hltR
        have hst := Lib.hid (offS_step S R i hltR)
        have hkm : R[i] ∈ L 0 := HRP.out.mem_iff.1 (List.getElem_mem hltR)
        obtain ⟨hkn, v, hv, _⟩ := (hmem.out R[i]).1 hkm
        have hnot : R[i] ∉ R.take i := by
          intro hm
          obtain ⟨j, hj, e⟩ := List.mem_take_iff_getElem.1 hm
          have hndR : R.Nodup := HRP.out.nodup_iff.2 hnd.out
          have := (List.getElem_inj hndR).1 e
          omega
        have hS : offS S (R.take i) R[i] = some v := by unfold offS; rw [if_neg hnot]; exact hv
        have CU := Lib.hid (wl_unset H5.out R[i] v hkn hS)
        have z0 := Z0.out
        obtain ⟨kk, hkk⟩ : ∃ kk, R[i] = kk := ⟨_, rfl⟩
        rw [hkk] at hc CU hst
        clear hkm hv hnot hS hkk
        go_wp2_with fail
        refine CU.out.mono ?_
        rintro e u6 ⟨rfl, k6, h6⟩
        rw [hst.out] at h6
        have H6 := Lib.hid h6
        have HRO6 := Lib.hid (HRO.out.only k6 (Or.inr (by have := HRO.out.lt.1; omega)))
        have Z6 : Hid (u6.cell? ⟨w.heap.size, 0, none⟩ = some (.pointer (some ⟨wb, 0, none⟩))) := Lib.hid ((k6.cell ⟨w.heap.size, 0, none⟩ HZ.out (Or.inr hhw)).trans Z0.out)
        have K6 := Lib.hid (K5.out.trans k6)
        have HZ6 : Hid (w.heap.size < u6.heap.size) := Lib.hid (Nat.lt_of_lt_of_le HZ.out k6.size)
        clear k6 h6 H5 HRO Z0 K5 CU z0 hc HZ hst
        go_wp2
        go_roundw
        case rel => exact ⟨i + 1, hlt, by go_num, H6, HRO6, Z6, K6, HZ6⟩
        case measure => simp [intOf]; omega
      · obtain rfl : i = (L 0).length := by omega
        have qi : ¬ ((L 0).length : Int) < ((L 0).length : Int) := by omega
        go_wp2
        go_ret
        have hndR : R.Nodup := HRP.out.nodup_iff.2 hnd.out
        have h5 := H5.out
        rw [show R.take (L 0).length = R from List.take_of_length_le (by rw [HRL.out]; exact Nat.le_refl _)] at h5
        have hmR : ∀ k, k ∈ R ↔ k < n ∧ ∃ v, S k = some v ∧ v.1 ≤ tg := fun k => (HRP.out.mem_iff).trans (hmem.out k)
        refine ⟨R, r, cp, by rw [HRL.out]; rfl, HRO.out, K5.out, h5, hndR, hmR, ?_⟩
        have hval : ∀ k, k ∈ R → A k = valS S k := fun k hk => by
          obtain ⟨h1, v, h2, _⟩ := (hmR k).1 hk
          unfold valS
          rw [h2, (II.out.on k v h1 h2).1]
          rfl
        refine List.Pairwise.imp_of_mem ?_ HRS.out
        intro a b hka hkb hab
        unfold ltA at hab ⊢
        rw [← hval a hka, ← hval b hkb]
        exact hab
  · have q0 : ¬ (now : Int) < (tg : Int) := by omega
    rw [show max now tg = now by omega]
    have hs1 : w.heap.size + 1 ≤ (w.alloc (.cells #[.pointer (some ⟨wb, 0, none⟩)] 53)).heap.size := by omega
    go_enter Tryd.func26, Tryd.ntmps26
    go_wp2_with fail
    have K1 := KK0
    have HH1 := HH0
    clear HH0 KK0 c0 hs0 htg hlt
    generalize w.alloc (.cells #[.pointer (some ⟨wb, 0, none⟩)] 53) = u1 at *
    obtain ⟨ab, lb, A, L, C, pl, M, I, P, hn, ha1, ha2, ha3⟩ := id HH1.out
    have c2 := M.c2
    have II := Lib.hid I
    have kd : u1.grownBy u1.drew none := ⟨rfl, rfl, rfl, Nat.le_refl _, fun _ _ _ => rfl⟩
    have MD := Lib.hid (M.kept kd)
    have hmem := Lib.hid (due_mem M I P)
    have hb0 : ∀ k ∈ L 0, k < n := fun k hk => (I.is 0 (by omega) k hk).1
    have HB0 := Lib.hid hb0
    have hnd := Lib.hid (I.nd 0 (by omega))
    have hwl := M.l
    have hll : (L 0).length ≤ 4096 := Nat.le_trans (few_of_nodup n (L 0) (I.nd 0 (by omega)) hb0) hn
    have CL : Hid (∀ v : World, Calls Tryd.prog 44 #[.int .i64 0, .int .i64 0] v fun e w' => e = .returned (.int .i64 0) ∧ v = w') := Lib.hid fun v => listOf_any 0 0 v (by omega) (by omega)
    have CA : Hid (Calls Tryd.prog 47 #[.pointer (some ⟨lb + 4, 0, none⟩), .int .i64 0] u1.drew _) := Lib.hid (all_in 0 MD.out.links (by omega))
    have HD := Lib.hid (HH1.out.kept kd)
    have KD := Lib.hid (K1.out.trans (Only.drew lo hi u1))
    clear M I P hb0 kd HH1 K1
    go_wp2_with fail
    refine wp_region_held_drew (S := fun x => x.cell? ⟨w.heap.size, 0, none⟩ = some (.pointer (some ⟨wb, 0, none⟩)) ∧ x.cell? ⟨wb, 2, none⟩ = some (.pointer (some ⟨lb + 4, 0, none⟩))) (by kernel_rfl) ⟨x0, c2⟩ (fun hHeld => ?_)
    refine wpAnyH_take (i := 0) (oi := ⟨_, _, _, _, _, _⟩) (v := ?_) rfl (by kernel_rfl) (by kernel_rfl) (by kernel_rfl) (fun _ _ _ h => h) (Or.inl ⟨by rfl, ?_⟩) (by assumption) ?_
    rotate_left
    · intro wz hSw
      try dsimp only at hSw
      go_simp
      try with_reducible rfl
    simp only [Act.put, List.setIfInBounds_toArray, List.set_cons_zero, List.set_cons_succ]
    refine wpAnyH_take (i := 1) (oi := ⟨_, _, _, _, _, _⟩) (v := ?_) rfl (by kernel_rfl) (by kernel_rfl) (by kernel_rfl) (fun _ _ _ h => h) (Or.inl ⟨by rfl, ?_⟩) (by assumption) ?_
    rotate_left
    · intro wz hSw
      try dsimp only at hSw
      go_simp
      try with_reducible rfl
    simp only [Act.put, List.setIfInBounds_toArray, List.set_cons_zero, List.set_cons_succ]
    refine wpAnyH_take (i := 2) (oi := ⟨_, _, _, _, _, _⟩) (v := ?_) rfl (by kernel_rfl) (by kernel_rfl) (by kernel_rfl) (fun _ _ _ h => h) (Or.inl ⟨by rfl, ?_⟩) (by assumption) ?_
    rotate_left
    · intro wz hSw
      try dsimp only at hSw
      go_simp
      try with_reducible rfl
    simp only [Act.put, List.setIfInBounds_toArray, List.set_cons_zero, List.set_cons_succ]
    refine wpAnyH_take (i := 3) (oi := ⟨_, _, _, _, _, _⟩) (v := ?_) rfl (by kernel_rfl) (by kernel_rfl) (by kernel_rfl) (fun _ _ _ h => h) (Or.inl ⟨by rfl, ?_⟩) (by assumption) ?_
    rotate_left
    · intro wz hSw
      try dsimp only at hSw
      go_simp
      try with_reducible rfl
    simp only [Act.put, List.setIfInBounds_toArray, List.set_cons_zero, List.set_cons_succ]
    refine wpAnyH_ready (rs := [4]) (by kernel_rfl) (by simp) ?_
    refine AllReadyH.cons (o := ⟨_, _, _, _, _, _⟩) rfl (fun K hK => ?_) AllReadyH.nil
    go_simp
    refine (CL.out _).mono ?_
    rintro e w' ⟨rfl, rfl⟩
    refine hK.out _ _ hHeld (fun hHeld => ?_)
    clear hK K
    try simp only [Act.put, List.setIfInBounds_toArray, List.set_cons_zero, List.set_cons_succ]
    refine wpAnyH_ready (rs := [5]) (by kernel_rfl) (by simp) ?_
    refine AllReadyH.cons (o := ⟨_, _, _, _, _, _⟩) rfl (fun K hK => ?_) AllReadyH.nil
    go_simp
    refine CA.out.mono ?_
    rintro e u3 ⟨r, cp, rfl, k3, hrow⟩
    have M3 := Lib.hid (MD.out.kept k3)
    have H3 := Lib.hid (HD.out.kept k3)
    have K3 := Lib.hid (KD.out.into k3)
    have y0 : u3.cell? ⟨w.heap.size, 0, none⟩ = some (.pointer (some ⟨wb, 0, none⟩)) := k3.cell (show u1.drew.cell? ⟨w.heap.size, 0, none⟩ = _ from x0) (by simp)
    have y2 : u3.cell? ⟨wb, 2, none⟩ = some (.pointer (some ⟨lb + 4, 0, none⟩)) := k3.cell (show u1.drew.cell? ⟨wb, 2, none⟩ = _ from c2) (by simp)
    have hrl : u1.heap.size ≤ r := hrow.lt.1
    refine hK.out _ _ ⟨y0, y2⟩ (fun hHeld => ?_)
    clear hK K
    try simp only [Act.put, List.setIfInBounds_toArray, List.set_cons_zero, List.set_cons_succ]
    refine wpAnyH_ready (rs := [6]) (by kernel_rfl) (by simp) ?_
    refine AllReadyH.cons (o := ⟨_, _, _, _, _, _⟩) rfl (fun K hK => ?_) AllReadyH.nil
    go_simp
    refine hK.out _ _ ⟨y0, y2⟩ (fun hHeld => ?_)
    clear hK K
    try simp only [Act.put, List.setIfInBounds_toArray, List.set_cons_zero, List.set_cons_succ]
    refine wpAnyH_done (by kernel_rfl) ?_ _
    have SC := Lib.hid (sort_call (cp := cp) (xb := w.heap.size) A HB0.out hn hrow (row_frozen hrow) (by omega) (by have := hwl.1; omega) (by have := hwl.2; omega) y0 M3.out.c1 M3.out.a0 hll)
    clear MD HD KD CA CL x0 c2 k3 y2 hrow
    go_wp2_with fail
    refine SC.out.mono ?_
    rintro e u4 ⟨rfl, hr4, k4⟩
    obtain ⟨R, hR⟩ : ∃ R, ordered A n (L 0) HB0.out = R := ⟨_, rfl⟩
    have hperm := ordered_perm A n (L 0) HB0.out
    have hsort := ordered_sorted A n (L 0) HB0.out
    rw [hR] at hr4 hperm hsort
    have HRP := Lib.hid hperm
    have HRS := Lib.hid hsort
    have hRl : R.length = (L 0).length := hperm.length_eq
    have HRL := Lib.hid hRl
    have HRO := Lib.hid (hr4.mono (show w.heap.size ≤ u1.heap.size by omega))
    have H4 := Lib.hid (H3.out.only (Only.of_some (lo := r) (hi := r + 1) k4 (Nat.le_refl _) (Nat.lt_succ_self _)) (Or.inl (by omega)))
    have K4 := Lib.hid (only_row K3.out k4 (by omega))
    have z0 := k4.cell y0 (by intro e; have e : some w.heap.size = some r := e; injection e with e; omega)
    have Z0 := Lib.hid z0
    have hz4 : Hid (w.heap.size < u4.heap.size ∧ r < u4.heap.size) := Lib.hid ⟨by have := K4.out.size; have := hr4.lt.2; omega, hr4.lt.2⟩
    clear hperm hsort hRl hr4 k4 y0 z0 SC H3 K3 M3 hR hrl
    go_wp2_with fail
    go_loopw [28] (fun it wr => ∃ i : Nat, i ≤ (L 0).length ∧ it = .int .i64 i ∧ Hid (Wl wr lo hi wb n now (offS S (R.take i))) ∧ Hid (RowOf wr w.heap.size r cp R) ∧ Hid (wr.cell? ⟨w.heap.size, 0, none⟩ = some (.pointer (some ⟨wb, 0, none⟩))) ∧ Hid (Only lo hi w wr) ∧ Hid (w.heap.size < wr.heap.size)) (fun it _ => (L 0).length - (intOf it).toNat)
    case atStart =>
      refine ⟨0, Nat.zero_le _, rfl, ?_, HRO, Z0, K4, Lib.hid hz4.out.1⟩
      have e : offS S (R.take 0) = S := by funext k; simp [offS]
      rw [e]
      exact H4
    case round =>
      clear H4 HRO Z0 K4 hz4
      obtain ⟨i, hi', rfl, H5, HRO, Z0, K5, HZ⟩ := hrel
      by_cases hlt : i < (L 0).length
      · have qi : (i : Int) < ((L 0).length : Int) := by omega
        have hltR : i < R.length := by rw [HRL.out]; exact hlt
        have hc := HRO.out.cell i hltR
        have hst := Lib.hid (offS_step S R i hltR)
        have hkm : R[i] ∈ L 0 := HRP.out.mem_iff.1 (List.getElem_mem hltR)
        obtain ⟨hkn, v, hv, _⟩ := (hmem.out R[i]).1 hkm
        have hnot : R[i] ∉ R.take i := by
          intro hm
          obtain ⟨j, hj, e⟩ := List.mem_take_iff_getElem.1 hm
          have hndR : R.Nodup := HRP.out.nodup_iff.2 hnd.out
          have := (List.getElem_inj hndR).1 e
          omega
        have hS : offS S (R.take i) R[i] = some v := by unfold offS; rw [if_neg hnot]; exact hv
        have CU := Lib.hid (wl_unset H5.out R[i] v hkn hS)
        have z0 := Z0.out
        obtain ⟨kk, hkk⟩ : ∃ kk, R[i] = kk := ⟨_, rfl⟩
        rw [hkk] at hc CU hst
        clear hkm hv hnot hS hkk
        go_wp2_with fail
        refine CU.out.mono ?_
        rintro e u6 ⟨rfl, k6, h6⟩
        rw [hst.out] at h6
        have H6 := Lib.hid h6
        have HRO6 := Lib.hid (HRO.out.only k6 (Or.inr (by have := HRO.out.lt.1; omega)))
        have Z6 : Hid (u6.cell? ⟨w.heap.size, 0, none⟩ = some (.pointer (some ⟨wb, 0, none⟩))) := Lib.hid ((k6.cell ⟨w.heap.size, 0, none⟩ HZ.out (Or.inr hhw)).trans Z0.out)
        have K6 := Lib.hid (K5.out.trans k6)
        have HZ6 : Hid (w.heap.size < u6.heap.size) := Lib.hid (Nat.lt_of_lt_of_le HZ.out k6.size)
        clear k6 h6 H5 HRO Z0 K5 CU z0 hc HZ hst
        go_wp2
        go_roundw
        case rel => exact ⟨i + 1, hlt, by go_num, H6, HRO6, Z6, K6, HZ6⟩
        case measure => simp [intOf]; omega
      · obtain rfl : i = (L 0).length := by omega
        have qi : ¬ ((L 0).length : Int) < ((L 0).length : Int) := by omega
        go_wp2
        go_ret
        have hndR : R.Nodup := HRP.out.nodup_iff.2 hnd.out
        have h5 := H5.out
        rw [show R.take (L 0).length = R from List.take_of_length_le (by rw [HRL.out]; exact Nat.le_refl _)] at h5
        have hmR : ∀ k, k ∈ R ↔ k < n ∧ ∃ v, S k = some v ∧ v.1 ≤ now := fun k => (HRP.out.mem_iff).trans (hmem.out k)
        refine ⟨R, r, cp, by rw [HRL.out]; rfl, HRO.out, K5.out, h5, hndR, hmR, ?_⟩
        have hval : ∀ k, k ∈ R → A k = valS S k := fun k hk => by
          obtain ⟨h1, v, h2, _⟩ := (hmR k).1 hk
          unfold valS
          rw [h2, (II.out.on k v h1 h2).1]
          rfl
        refine List.Pairwise.imp_of_mem ?_ HRS.out
        intro a b hka hkb hab
        unfold ltA at hab ⊢
        rw [← hval a hka, ← hval b hkb]
        exact hab
end
end Go.Proofs.YtkkodhjolgcokaaDoor
/-
  Package alarm, over this seat's translation: how a book of timers lies in memory, piece by piece, and what its calls may turn. (No condition.)
-/
namespace Go.Proofs.YtkkodhjolgcokaaDoor
open Go.RowKit Go.Lib

/-- A timer: is there one, its state, by which handle, for when, how often again, its turn. -/
structure Ti where
  is : Bool
  st : Nat
  h : Nat
  t : Nat
  p : Nat
  u : Nat
def Ti.none : Ti := ⟨false, 0, 0, 0, 0, 0⟩
def Ti.idle : Ti := ⟨true, 0, 0, 0, 0, 0⟩
def Ti.row (x : Ti) : SA.Pr := ⟨(x.st : Nat), (x.h : Nat), (x.t : Nat), (x.p : Nat)⟩
/-- A timer that is due. -/
def Ti.due (x : Ti) : Ti := ⟨x.is, 2, x.h, x.t, x.p, x.u⟩
/-- What the wheel has: the timers that are set. -/
def onW (T : Nat → Ti) : Nat → Option (Nat × Nat) := fun k => if (T k).st = 1 then some ((T k).t, (T k).u) else Option.none
structure Ti.ok (x : Ti) : Prop where
  off : x.is = false → x = Ti.none
  idle : x.is = true → x.st = 0 → x = Ti.idle
  st : x.st ≤ 2
  bd : x.h < 18446744073709551616 ∧ x.t < 18446744073709551616 ∧ x.p < 18446744073709551616
structure TiOk (n tu : Nat) (T : Nat → Ti) : Prop where
  ok : ∀ k, (T k).ok
  far : ∀ k, n ≤ k → T k = Ti.none
  tu : ∀ k, (T k).st = 1 → (T k).u < tu
  inj : ∀ j k, (T j).st = 1 → (T k).st = 1 → (T j).u = (T k).u → j = k
theorem Ti.none_ok : Ti.none.ok := ⟨fun _ => rfl, fun h => (by cases h), by decide, by decide⟩
theorem Ti.idle_ok : Ti.idle.ok := ⟨fun h => (by cases h), fun _ _ => rfl, by decide, by decide⟩
theorem TiOk.new (n tu : Nat) : TiOk n tu fun _ => Ti.none := ⟨fun _ => Ti.none_ok, fun _ _ => rfl, fun _ h => (by cases h), fun _ _ h => (by cases h)⟩
theorem TiOk.up {n tu p : Nat} {T : Nat → Ti} (H : TiOk n tu T) (hp : p < n) (x : Ti) (hx : x.ok) (hs : x.st ≠ 1) : TiOk n tu (upV T p x) := by
  refine ⟨fun k => ?_, fun k hk => ?_, fun k h => ?_, fun j k hj hk e => ?_⟩
  · by_cases e : k = p
    · subst e; rw [upV_same]; exact hx
    · rw [upV_other _ _ _ _ e]; exact H.ok k
  · rw [upV_other _ _ _ _ (by omega)]; exact H.far k hk
  · by_cases e : k = p
    · subst e; rw [upV_same] at h; exact absurd h hs
    · rw [upV_other _ _ _ _ e] at *; exact H.tu k h
  · by_cases e1 : j = p
    · subst e1; rw [upV_same] at hj; exact absurd hj hs
    · by_cases e2 : k = p
      · subst e2; rw [upV_same] at hk; exact absurd hk hs
      · rw [upV_other _ _ _ _ e1] at *; rw [upV_other _ _ _ _ e2] at *; exact H.inj j k hj hk e
theorem TiOk.arm {n tu p : Nat} {T : Nat → Ti} (H : TiOk n tu T) (hp : p < n) (x : Ti) (hx : x.ok) (hu : x.u = tu) : TiOk n (tu + 1) (upV T p x) := by
  refine ⟨fun k => ?_, fun k hk => ?_, fun k h => ?_, fun j k hj hk e => ?_⟩
  · by_cases e : k = p
    · subst e; rw [upV_same]; exact hx
    · rw [upV_other _ _ _ _ e]; exact H.ok k
  · rw [upV_other _ _ _ _ (by omega)]; exact H.far k hk
  · by_cases e : k = p
    · subst e; rw [upV_same]; omega
    · rw [upV_other _ _ _ _ e] at *; have := H.tu k h; omega
  · by_cases e1 : j = p
    · subst e1
      by_cases e2 : k = j
      · exact e2.symm
      · rw [upV_other _ _ _ _ e2] at *; rw [upV_same] at e; have := H.tu k hk; omega
    · rw [upV_other _ _ _ _ e1] at *
      by_cases e2 : k = p
      · subst e2; rw [upV_same] at e; have := H.tu j hj; omega
      · rw [upV_other _ _ _ _ e2] at *; exact H.inj j k hj hk e
theorem onW_up (T : Nat → Ti) (p : Nat) (x : Ti) : onW (upV T p x) = upS (onW T) p (if x.st = 1 then some (x.t, x.u) else Option.none) := by
  funext k
  unfold onW upS
  by_cases e : k = p
  · subst e; rw [upV_same]; simp
  · rw [upV_other _ _ _ _ e]; simp [e]
theorem upS_same_none (S : Nat → Option (Nat × Nat)) (p : Nat) (h : S p = Option.none) : upS S p Option.none = S := by
  funext k; unfold upS; split
  · next e => subst e; exact h.symm
  · rfl
theorem upS_upS (S : Nat → Option (Nat × Nat)) (p : Nat) (x y : Option (Nat × Nat)) : upS (upS S p x) p y = upS S p y := by
  funext k; unfold upS; split <;> rfl
theorem is_up (T : Nat → Ti) (p : Nat) (x : Ti) : (fun k => (upV T p x k).is) = fun k => if k = p then x.is else (T k).is := by
  funext k; by_cases e : k = p
  · subst e; rw [upV_same]; simp
  · rw [upV_other _ _ _ _ e]; simp [e]
theorem row_up (T : Nat → Ti) (p : Nat) (x : Ti) : (fun k => (upV T p x k).row) = upV (fun k => (T k).row) p x.row := by
  funext k; by_cases e : k = p
  · subst e; rw [upV_same, upV_same]
  · rw [upV_other _ _ _ _ e, upV_other _ _ _ _ e]

theorem Wl.blk {w w' : World} {lo hi wb n now : Nat} {S : Nat → Option (Nat × Nat)} (H : Wl w lo hi wb n now S) (hh : hi ≤ w.heap.size) (os : w'.os = w.os) (tape : w'.tape = w.tape) (output : w'.output = w.output) (hs : w.heap.size ≤ w'.heap.size)
    (hb : ∀ k, lo ≤ k → k < hi → w'.heap[k]? = w.heap[k]?) : Wl w' lo hi wb n now S := by
  obtain ⟨P, hP, hsz, h1, h2⟩ : ∃ P : World, (P.os = w.os ∧ P.tape = w.tape ∧ P.output = w.output) ∧ P.heap.size = w'.heap.size ∧ (∀ k, k < hi → k < w.heap.size → P.heap[k]? = w.heap[k]?) ∧ (∀ k, hi ≤ k → P.heap[k]? = w'.heap[k]?) := by
    refine ⟨{ w' with heap := Array.ofFn (n := w'.heap.size) fun k => if k.1 < hi then (w.heap[k.1]?).getD w'.heap[k.1] else w'.heap[k.1] }, ⟨os, tape, output⟩, by simp, fun k h1 h2 => ?_, fun k h1 => ?_⟩
    · have h3 : k < w'.heap.size := by omega
      simp [Array.getElem?_ofFn, h3, h1, h2]
    · by_cases h3 : k < w'.heap.size
      · have h4 : ¬ k < hi := by omega
        simp [Array.getElem?_ofFn, h3, h4]
      · simp [Array.getElem?_ofFn, h3]
  have k1 : Only hi w'.heap.size w P := ⟨hP.1, hP.2.1, hP.2.2, by omega, fun k hk hr => h1 k (by omega) hk⟩
  have H1 := H.only k1 (Or.inl (Nat.le_refl _))
  have k2 : Only 0 lo P w' := ⟨os.trans hP.1.symm, tape.trans hP.2.1.symm, output.trans hP.2.2.symm, by omega, fun k hk hr => by
    by_cases h : k < hi
    · rw [h1 k h (by omega)]; exact hb k (by omega) h
    · rw [h2 k (by omega)]⟩
  exact H1.only k2 (Or.inr (Nat.le_refl _))

/-- From w to w' nothing has turned but blocks g and bb, those from lo on below hi, and the cells of block pb from po on, below po + m. -/
structure BTouch (g pb po m lo hi bb : Nat) (w w' : World) : Prop where
  os : w'.os = w.os
  tape : w'.tape = w.tape
  output : w'.output = w.output
  size : w.heap.size ≤ w'.heap.size
  block : ∀ k, k < w.heap.size → k ≠ g → k ≠ pb → k ≠ bb → (k < lo ∨ hi ≤ k) → w'.heap[k]? = w.heap[k]?
  cell : ∀ j, (j < po ∨ po + m ≤ j) → w'.cell? ⟨pb, j, none⟩ = w.cell? ⟨pb, j, none⟩
  frz : ∀ j, w'.frozen? ⟨pb, j, none⟩ = w.frozen? ⟨pb, j, none⟩
section
variable {g pb po m lo hi bb : Nat} {w w' w2 : World}
theorem BTouch.of_touch (h : Touch g pb po m w w') : BTouch g pb po m lo hi bb w w' := ⟨h.os, h.tape, h.output, h.size, fun k hk h1 h2 _ _ => h.block k hk h1 h2, h.cell, h.frz⟩
theorem BTouch.of_only (h : Only lo hi w w') (hp : pb < w.heap.size) (hr : pb < lo ∨ hi ≤ pb) : BTouch g pb po m lo hi bb w w' := ⟨h.os, h.tape, h.output, h.size, fun k hk _ _ _ h1 => h.block k hk h1, fun j _ => h.cell' pb j hp hr, fun j => h.frozen' pb j hp hr⟩
theorem BTouch.of_none (h : w.grownBy w' none) (hp : pb < w.heap.size) : BTouch g pb po m lo hi bb w w' := BTouch.of_touch (Touch.of_none h hp)
theorem BTouch.trans (h : BTouch g pb po m lo hi bb w w') (k : BTouch g pb po m lo hi bb w' w2) : BTouch g pb po m lo hi bb w w2 :=
  ⟨k.os.trans h.os, k.tape.trans h.tape, k.output.trans h.output, Nat.le_trans h.size k.size, fun i hi h0 h1 h2 h3 => (k.block i (Nat.lt_of_lt_of_le hi h.size) h0 h1 h2 h3).trans (h.block i hi h0 h1 h2 h3), fun j hj => (k.cell j hj).trans (h.cell j hj), fun j => (k.frz j).trans (h.frz j)⟩
theorem BTouch.set (w : World) (j : Nat) (v : Value) (hne : pb ≠ bb) : BTouch g pb po m lo hi bb w (w.setCell ⟨bb, j, none⟩ v) :=
  ⟨rfl, rfl, rfl, by rw [size_set]; exact Nat.le_refl _, fun k _ _ _ hk _ => Below.heap_setCell w ⟨bb, j, none⟩ v k hk, fun i _ => World.cell?_setCell_other _ _ _ _ (by intro e; injection e with e1; exact hne e1.symm), fun i => World.frozen?_setCell ..⟩
theorem BTouch.only {l h : Nat} (H : BTouch g pb po m lo hi bb w w') (h0 : l ≤ g ∧ g < h) (h1 : l ≤ pb ∧ pb < h) (h2 : l ≤ bb ∧ bb < h) (h3 : l ≤ lo ∧ hi ≤ h) : Only l h w w' :=
  ⟨H.os, H.tape, H.output, H.size, fun k hk hr => H.block k hk (by omega) (by omega) (by omega) (by omega)⟩
end

/-- A book's pieces: its struct in block bb; its region; its wheel, in blocks from lo on, below hi; its count of turns. -/
structure BkP (w : World) (bb rb ro pb po b g lo hi wb n now tu : Nat) (S : Nat → Bool) (V : Nat → SA.Pr) (A : Nat → Option (Nat × Nat)) : Prop where
  c0 : w.cell? ⟨bb, 0, none⟩ = some (.pointer (some ⟨rb, ro, none⟩))
  c1 : w.cell? ⟨bb, 1, none⟩ = some (.pointer (some ⟨wb, 0, none⟩))
  c2 : w.cell? ⟨bb, 2, none⟩ = some (.int .u64 (tu : Nat))
  f2 : w.frozen? ⟨bb, 2, none⟩ = false
  reg : SA.RegMem w rb ro pb po b g n S V
  wl : Wl w lo hi wb n now A
  bd : tu < 18446744073709551616
  hw : hi ≤ w.heap.size
  l : bb < w.heap.size
  d : bb ≠ rb ∧ bb ≠ pb ∧ bb ≠ b ∧ bb ≠ g
  o : (bb < lo ∨ hi ≤ bb) ∧ (rb < lo ∨ hi ≤ rb) ∧ (pb < lo ∨ hi ≤ pb) ∧ (b < lo ∨ hi ≤ b) ∧ (g < lo ∨ hi ≤ g)
section
variable {w w' : World} {bb rb ro pb po b g lo hi wb n now tu : Nat} {S S' : Nat → Bool} {V V' : Nat → SA.Pr} {A A' : Nat → Option (Nat × Nat)}
theorem BkP.only {l h : Nat} (H : BkP w bb rb ro pb po b g lo hi wb n now tu S V A) (k : Only l h w w') (h0 : bb < l ∨ h ≤ bb) (h1 : rb < l ∨ h ≤ rb) (h2 : pb < l ∨ h ≤ pb) (h3 : b < l ∨ h ≤ b) (h4 : g < l ∨ h ≤ g) (h5 : hi ≤ l ∨ h ≤ lo) : BkP w' bb rb ro pb po b g lo hi wb n now tu S V A :=
  ⟨(k.cell' bb _ H.l h0).trans H.c0, (k.cell' bb _ H.l h0).trans H.c1, (k.cell' bb _ H.l h0).trans H.c2, (k.frozen' bb _ H.l h0).trans H.f2, H.reg.only k h1 h2 h3 h4, H.wl.only k h5, H.bd, Nat.le_trans H.hw k.size, Nat.lt_of_lt_of_le H.l k.size, H.d, H.o⟩
theorem BkP.grown (H : BkP w bb rb ro pb po b g lo hi wb n now tu S V A) (k : w.grownBy w' none) : BkP w' bb rb ro pb po b g lo hi wb n now tu S V A :=
  H.only (Only.of_none (lo := 0) (hi := 0) k) (Or.inr (by omega)) (Or.inr (by omega)) (Or.inr (by omega)) (Or.inr (by omega)) (Or.inr (by omega)) (Or.inr (by omega))
/-- The region has turned. -/
theorem BkP.touch (H : BkP w bb rb ro pb po b g lo hi wb n now tu S V A) (k : Touch g pb po (n * 4) w w') (R : SA.RegMem w' rb ro pb po b g n S' V') : BkP w' bb rb ro pb po b g lo hi wb n now tu S' V' A ∧ BTouch g pb po (n * 4) lo hi bb w w' := by
  obtain ⟨d1, d2, d3, d4⟩ := H.d
  obtain ⟨o1, o2, o3, o4, o5⟩ := H.o
  exact ⟨⟨(k.far bb _ H.l d4 d2).trans H.c0, (k.far bb _ H.l d4 d2).trans H.c1, (k.far bb _ H.l d4 d2).trans H.c2, (k.farF bb _ H.l d4 d2).trans H.f2, R, H.wl.blk H.hw k.os k.tape k.output k.size (fun i h1 h2 => k.block i (by have := H.hw; omega) (by omega) (by omega)), H.bd, Nat.le_trans H.hw k.size, Nat.lt_of_lt_of_le H.l k.size, H.d, H.o⟩, BTouch.of_touch k⟩
/-- The wheel has turned. -/
theorem BkP.turn {now' : Nat} (H : BkP w bb rb ro pb po b g lo hi wb n now tu S V A) (k : Only lo hi w w') (W : Wl w' lo hi wb n now' A') : BkP w' bb rb ro pb po b g lo hi wb n now' tu S V A' ∧ BTouch g pb po (n * 4) lo hi bb w w' := by
  obtain ⟨o1, o2, o3, o4, o5⟩ := H.o
  exact ⟨⟨(k.cell' bb _ H.l o1).trans H.c0, (k.cell' bb _ H.l o1).trans H.c1, (k.cell' bb _ H.l o1).trans H.c2, (k.frozen' bb _ H.l o1).trans H.f2, H.reg.only k o2 o3 o4 o5, W, H.bd, Nat.le_trans H.hw k.size, Nat.lt_of_lt_of_le H.l k.size, H.d, H.o⟩, BTouch.of_only k H.reg.l.2 o3⟩
/-- The count of turns has turned. -/
theorem BkP.count (H : BkP w bb rb ro pb po b g lo hi wb n now tu S V A) (tu' : Nat) (ht : tu' < 18446744073709551616) : BkP (w.setCell ⟨bb, 2, none⟩ (.int .u64 (tu' : Nat))) bb rb ro pb po b g lo hi wb n now tu' S V A ∧ BTouch g pb po (n * 4) lo hi bb w (w.setCell ⟨bb, 2, none⟩ (.int .u64 (tu' : Nat))) := by
  have k : Only bb (bb + 1) w (w.setCell ⟨bb, 2, none⟩ (.int .u64 (tu' : Nat))) := Only.set _ _ _ (Nat.le_refl _) (Nat.lt_succ_self _)
  obtain ⟨d1, d2, d3, d4⟩ := H.d
  obtain ⟨o1, o2, o3, o4, o5⟩ := H.o
  refine ⟨⟨(World.cell?_setCell_other _ _ _ _ (by intro e; injection e with e1 e2; omega)).trans H.c0, (World.cell?_setCell_other _ _ _ _ (by intro e; injection e with e1 e2; omega)).trans H.c1, World.cell?_setCell_same _ _ _ H.c2, (World.frozen?_setCell ..).trans H.f2, H.reg.only k (by omega) (by omega) (by omega) (by omega), H.wl.only k (by omega), ht, Nat.le_trans H.hw k.size, Nat.lt_of_lt_of_le H.l k.size, H.d, H.o⟩, BTouch.set _ _ _ (Ne.symm d2)⟩
end

/-- A book in block bb: its region's places are rb .. g, its wheel's blocks lo .. hi; n places, the time now, tu turns; T k is timer k. -/
structure BkMem (w : World) (bb rb ro pb po b g lo hi wb n now tu : Nat) (T : Nat → Ti) : Prop where
  m : BkP w bb rb ro pb po b g lo hi wb n now tu (fun k => (T k).is) (fun k => (T k).row) (onW T)
  ok : TiOk n tu T
end Go.Proofs.YtkkodhjolgcokaaDoor
