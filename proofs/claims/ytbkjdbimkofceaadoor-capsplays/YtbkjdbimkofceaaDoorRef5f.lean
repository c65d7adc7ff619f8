/-
  Contracts of nightjarref05, over this seat's translation: Mint.
-/
import Derived.Test.YtbkjdbimkofceaaDoorRef5e
namespace Go.Proofs.YtbkjdbimkofceaaDoor
open Go.RowKit Go.Lib
set_option maxRecDepth 100000

section
variable {w : World} {r n cp G : Nat} {T : Nat → Pl}
set_option maxHeartbeats 8000000 in
theorem rmint5 (k i q : Int) (H : PlAt5 w r n T) (hn : n ≤ 15) (ok : ∀ j, j < n → (T j).ok G) (hG : G ≤ 16777215) :
    Calls Tryd.prog 10 #[.agg #[.slice (some ⟨r, 0, none⟩) n cp, .int .i64 (G : Nat)], .agg #[.int .i64 k, .int .i64 i, .int .i64 q]] w fun e w' => ∃ r' cp', e = .returned (.tuple #[.agg #[.slice (some ⟨r', 0, none⟩) n cp', .int .i64 (G : Nat)], .int .u64 (mintH T G n q : Nat), .int .i64 (mintE T G n : Nat)]) ∧ w.grownBy w' none ∧ (r' = r ∨ w.heap.size ≤ r') ∧ PlAt5 w' r' n (mintT T G n k i q) := by
  have hrl := H.lt
  obtain ⟨qm, hqm⟩ : ∃ qm, qm = (q % 256).toNat := ⟨_, rfl⟩
  have hm : bits .and .i64 q 255 = (qm : Nat) := by rw [hqm]; exact mask_nat q
  have hm2 : qm < 256 := by omega
  have HQM := Lib.hid hqm
  clear hqm
  have ka := World.grownBy_alloc w (.cells #[.slice (some ⟨r, 0, none⟩) n cp, .int .i64 (G : Nat)] 29) none
  have kb := World.grownBy_alloc (w.alloc (.cells #[.slice (some ⟨r, 0, none⟩) n cp, .int .i64 (G : Nat)] 29)) (.cells #[.int .i64 k, .int .i64 i, .int .i64 (qm : Nat)] 41) none
  have kc := World.grownBy_alloc ((w.alloc (.cells #[.slice (some ⟨r, 0, none⟩) n cp, .int .i64 (G : Nat)] 29)).alloc (.cells #[.int .i64 k, .int .i64 i, .int .i64 (qm : Nat)] 41)) (.cells #[.slice none 0 0, .int .i64 0] 29) none
  obtain ⟨wz, hwz⟩ : ∃ z, z = ((w.alloc (.cells #[.slice (some ⟨r, 0, none⟩) n cp, .int .i64 (G : Nat)] 29)).alloc (.cells #[.int .i64 k, .int .i64 i, .int .i64 (qm : Nat)] 41)).alloc (.cells #[.slice none 0 0, .int .i64 0] 29) := ⟨_, rfl⟩
  have kabc := (ka.trans kb).trans kc
  rw [← hwz] at kabc
  have t0 : wz.cell? ⟨w.heap.size, 0, none⟩ = some (.slice (some ⟨r, 0, none⟩) n cp) := by rw [hwz, at3a]; rfl
  have t1 : wz.cell? ⟨w.heap.size, 1, none⟩ = some (.int .i64 (G : Nat)) := by rw [hwz, at3a]; rfl
  have q0 : wz.cell? ⟨w.heap.size + 1, 0, none⟩ = some (.int .i64 k) := by rw [hwz, at3b]; rfl
  have q1 : wz.cell? ⟨w.heap.size + 1, 0 + 1, none⟩ = some (.int .i64 i) := by rw [hwz, at3b]; rfl
  have q2 : wz.cell? ⟨w.heap.size + 1, 0 + 2, none⟩ = some (.int .i64 (qm : Nat)) := by rw [hwz, at3b]; rfl
  have u0 : wz.cell? ⟨w.heap.size + 1 + 1, 0, none⟩ = some (.slice none 0 0) := by rw [hwz, at3c]; rfl
  have u1 : wz.cell? ⟨w.heap.size + 1 + 1, 0 + 1, none⟩ = some (.int .i64 0) := by rw [hwz, at3c]; rfl
  have f0 : ∀ j, wz.frozen? ⟨w.heap.size + 1 + 1, j, none⟩ = false := fun j => by rw [hwz]; exact fr3c ..
  have hsz : w.heap.size + 3 ≤ wz.heap.size := by rw [hwz]; simp
  have HP := Lib.hid (H.kept kabc)
  have KK := Lib.hid kabc
  have HO := Lib.hid ok
  clear ka kb kc kabc H ok
  unfold mintH mintE mintT
  have QI : Hid (∀ (v : World) (j : Nat), wz.grownBy v none → j < n → v.cell? ⟨w.heap.size, 0, none⟩ = some (.slice (some ⟨r, 0, none⟩) n cp) ∧ v.cell? ⟨w.heap.size, 1, none⟩ = some (.int .i64 (G : Nat)) ∧ P5 v r (j * 5) (T j)) := Lib.hid fun v j kv hj => ⟨(kv.cell_far ⟨w.heap.size, 0, none⟩ (show w.heap.size < _ by omega) (by simp)).trans t0, (kv.cell_far ⟨w.heap.size, 1, none⟩ (show w.heap.size < _ by omega) (by simp)).trans t1, (HP.out.kept kv).pl j hj⟩
  cases e2 : firstP (fun q => (T q).full G) n with
  | none =>
    have hf := first_no e2
    have HF := Lib.hid hf
    clear e2 hf
    go_enter Tryd.func10, Tryd.ntmps10
    go_upto_region 2 with fail
    rw [← hwz]
    clear hwz
    go_wp2_with fail
    go_loopw [7] (fun it wr => ∃ j : Nat, j ≤ n ∧ it = .int .i64 j ∧ wz.grownBy wr none) (fun it _ => n - (intOf it).toNat)
    case atStart => exact ⟨0, Nat.zero_le _, rfl, SR.grow_refl _⟩
    case round =>
      obtain ⟨j, hj, rfl, hgr⟩ := hrel
      by_cases hlt : j < n
      · have qj : (j : Int) < (n : Int) := by omega
        obtain ⟨s0, s1, c0, c1, c2, c3, c4⟩ := QI.out wr j hgr hlt
        have hfull := HF.out j hlt
        have k3 := World.grownBy_alloc wr (.cells #[.int .i64 ((T j).gen : Nat), .bool (T j).out, .int .i64 (T j).k, .int .i64 (T j).i, .int .i64 ((T j).r : Nat)] 76) none
        have K3 := Lib.hid (hgr.trans k3)
        have s1b := (k3.cell_far ⟨w.heap.size, 1, none⟩ (show w.heap.size < _ by have := hgr.size; omega) (by simp)).trans s1
        clear k3
        generalize hTo : (T j).out = o at *
        cases o
        · have hge : ¬ (((T j).gen : Nat) : Int) < ((G : Nat) : Int) := by simp [Pl.full, hTo] at hfull; omega
          clear hfull hTo
          go_wp2
          go_roundw
          case rel => exact ⟨j + 1, by omega, by go_num, K3.out⟩
          case measure => simp [intOf]; omega
        · clear hfull hTo
          go_wp2
          go_roundw
          case rel => exact ⟨j + 1, by omega, by go_num, K3.out⟩
          case measure => simp [intOf]; omega
      · have qj : ¬ (j : Int) < (n : Int) := by omega
        have s0 := (hgr.cell_far ⟨w.heap.size, 0, none⟩ (show w.heap.size < _ by omega) (by simp)).trans t0
        have s1 : wr.cell? ⟨w.heap.size, 0 + 1, none⟩ = _ := (hgr.cell_far ⟨w.heap.size, 1, none⟩ (show w.heap.size < _ by omega) (by simp)).trans t1
        have v0 := (hgr.cell_far ⟨w.heap.size + 1 + 1, 0, none⟩ (show w.heap.size + 1 + 1 < _ by omega) (by simp)).trans u0
        have v1 := (hgr.cell_far ⟨w.heap.size + 1 + 1, 0 + 1, none⟩ (show w.heap.size + 1 + 1 < _ by omega) (by simp)).trans u1
        have v2 := (hgr.frozen_far ⟨w.heap.size + 1 + 1, 0, none⟩ (show w.heap.size + 1 + 1 < _ by omega) (by simp)).trans (f0 0)
        have v3 := (hgr.frozen_far ⟨w.heap.size + 1 + 1, 0 + 1, none⟩ (show w.heap.size + 1 + 1 < _ by omega) (by simp)).trans (f0 (0 + 1))
        have v4 : (wr.setCell ⟨w.heap.size + 1 + 1, 0, none⟩ (.slice (some ⟨r, 0, none⟩) n cp)).cell? ⟨w.heap.size + 1 + 1, 0 + 1, none⟩ = some (.int .i64 0) := (set_far5 _ _ _ _ _ _ (Or.inr (by omega))).trans v1
        have v5 : (wr.setCell ⟨w.heap.size + 1 + 1, 0, none⟩ (.slice (some ⟨r, 0, none⟩) n cp)).frozen? ⟨w.heap.size + 1 + 1, 0 + 1, none⟩ = false := (World.frozen?_setCell ..).trans v3
        have FIN := Lib.hid (put2_fin (G := G) (cp := cp) (KK.out.trans hgr) (show w.heap.size ≤ w.heap.size + 1 + 1 by omega) v0 v1 (HP.out.kept hgr) (show r ≠ w.heap.size + 1 + 1 by omega))
        clear t0 t1 u0 u1 f0 q0 q1 q2
        go_wp2
        obtain ⟨g0, g1, g2, g3⟩ := FIN.out
        unfold put2 at g0 g1 g2 g3
        exact bodyPost_ret (v := .tuple #[.agg #[.slice (some ⟨r, 0, none⟩) n cp, .int .i64 (G : Nat)], .int .u64 0, .int .i64 4]) (by simp [results, Tryd.results10, go_sem, g1, g2]) rfl (by first | exact ⟨r, cp, rfl, g0, Or.inl rfl, g3⟩ | exact ⟨r, ⟨cp, rfl⟩, g0, Or.inl rfl, g3⟩)
  | some p =>
    obtain ⟨hp, hf, hl⟩ := first_at e2
    have HL := Lib.hid hl
    have hpo : (T p).out = false := by cases h : (T p).out <;> simp [Pl.full, h] at hf ⊢
    have hpg : (T p).gen < G := by simp [Pl.full, hpo] at hf; omega
    clear e2 hl hf
    go_enter Tryd.func10, Tryd.ntmps10
    go_upto_region 2 with fail
    rw [← hwz]
    clear hwz
    go_wp2_with fail
    go_loopw [7] (fun it wr => ∃ j : Nat, j ≤ p ∧ it = .int .i64 j ∧ wz.grownBy wr none) (fun it _ => n - (intOf it).toNat)
    case atStart => exact ⟨0, Nat.zero_le _, rfl, SR.grow_refl _⟩
    case round =>
      obtain ⟨j, hj, rfl, hgr⟩ := hrel
      have qj : (j : Int) < (n : Int) := by omega
      obtain ⟨s0, s1, c0, c1, c2, c3, c4⟩ := QI.out wr j hgr (by omega)
      have k3 := World.grownBy_alloc wr (.cells #[.int .i64 ((T j).gen : Nat), .bool (T j).out, .int .i64 (T j).k, .int .i64 (T j).i, .int .i64 ((T j).r : Nat)] 76) none
      have K3 := Lib.hid (hgr.trans k3)
      by_cases hlt : j < p
      · have hfull := HL.out j hlt
        have s1b := (k3.cell_far ⟨w.heap.size, 1, none⟩ (show w.heap.size < _ by have := hgr.size; omega) (by simp)).trans s1
        clear k3
        generalize hTo : (T j).out = o at *
        cases o
        · have hge : ¬ (((T j).gen : Nat) : Int) < ((G : Nat) : Int) := by simp [Pl.full, hTo] at hfull; omega
          clear hfull hTo
          go_wp2
          go_roundw
          case rel => exact ⟨j + 1, by omega, by go_num, K3.out⟩
          case measure => simp [intOf]; omega
        · clear hfull hTo
          go_wp2
          go_roundw
          case rel => exact ⟨j + 1, by omega, by go_num, K3.out⟩
          case measure => simp [intOf]; omega
      · have hje : j = p := by omega
        subst hje
        rw [hpo] at c1 k3 K3
        have s1b := (k3.cell_far ⟨w.heap.size, 1, none⟩ (show w.heap.size < _ by have := hgr.size; omega) (by simp)).trans s1
        have hgp : (((T j).gen : Nat) : Int) < ((G : Nat) : Int) := by omega
        go_upto_region 7 with fail
        have b0 : (wr.alloc (.cells #[.int .i64 ((T j).gen : Nat), .bool false, .int .i64 (T j).k, .int .i64 (T j).i, .int .i64 ((T j).r : Nat)] 76)).cell? ⟨wr.heap.size, 0, none⟩ = some (.int .i64 ((T j).gen : Nat)) := by simp
        have hbl : wr.heap.size < (wr.alloc (.cells #[.int .i64 ((T j).gen : Nat), .bool false, .int .i64 (T j).k, .int .i64 (T j).i, .int .i64 ((T j).r : Nat)] 76)).heap.size := by simp
        have hwl := hgr.size
        have hlw : w.heap.size + 3 ≤ wr.heap.size := by omega
        clear s0 s1 s1b c0 c1 c2 c3 c4
        generalize wr.alloc (.cells #[.int .i64 ((T j).gen : Nat), .bool false, .int .i64 (T j).k, .int .i64 (T j).i, .int .i64 ((T j).r : Nat)] 76) = wo at *
        generalize wr.heap.size = pb at *
        have kd : wo.grownBy wo.drew none := ⟨rfl, rfl, rfl, Nat.le_refl _, fun _ _ _ => rfl⟩
        have k4 := K3.out.trans kd
        have K4 := Lib.hid k4
        have h0 : wo.drew.cell? ⟨w.heap.size, 0, none⟩ = some (.slice (some ⟨r, 0, none⟩) n cp) := (k4.cell_far ⟨w.heap.size, 0, none⟩ (show w.heap.size < _ by omega) (by simp)).trans t0
        have h1 : wo.drew.cell? ⟨w.heap.size, 0 + 1, none⟩ = some (.int .i64 (G : Nat)) := (k4.cell_far ⟨w.heap.size, 1, none⟩ (show w.heap.size < _ by omega) (by simp)).trans t1
        have hb : wo.drew.cell? ⟨pb, 0, none⟩ = some (.int .i64 ((T j).gen : Nat)) := b0
        have m0 : wo.drew.cell? ⟨w.heap.size + 1, 0, none⟩ = some (.int .i64 k) := (k4.cell_far ⟨w.heap.size + 1, 0, none⟩ (show w.heap.size + 1 < _ by omega) (by simp)).trans q0
        have m1 : wo.drew.cell? ⟨w.heap.size + 1, 0 + 1, none⟩ = some (.int .i64 i) := (k4.cell_far ⟨w.heap.size + 1, 0 + 1, none⟩ (show w.heap.size + 1 < _ by omega) (by simp)).trans q1
        have m2 : wo.drew.cell? ⟨w.heap.size + 1, 0 + 2, none⟩ = some (.int .i64 (qm : Nat)) := (k4.cell_far ⟨w.heap.size + 1, 0 + 2, none⟩ (show w.heap.size + 1 < _ by omega) (by simp)).trans q2
        have hwo : pb < wo.drew.heap.size := hbl
        have hwr : IntKind.i64.wrap ((((T j).gen : Nat) : Int) + 1) = (((T j).gen + 1 : Nat) : Int) := by simp [IntKind.wrap, IntKind.bits, IntKind.signed]; omega
        have HWR := Lib.hid hwr
        clear hwr
        have CW : Hid (Calls Tryd.prog 28 #[.agg #[.slice (some ⟨r, 0, none⟩) n cp, .int .i64 (G : Nat)], .int .i64 j, .agg #[.int .i64 (IntKind.i64.wrap ((((T j).gen : Nat) : Int) + 1)), .bool true, .int .i64 k, .int .i64 i, .int .i64 (qm : Nat)]] wo.drew fun e w' => ∃ r' cp', e = .returned (.agg #[.slice (some ⟨r', 0, none⟩) n cp', .int .i64 (G : Nat)]) ∧ wo.drew.grownBy w' none ∧ wo.drew.heap.size ≤ r' ∧ PlAt5 w' r' n (upV T j ⟨(T j).gen + 1, true, k, i, qm⟩)) := Lib.hid (by
          have := rwith5 (cp := cp) (G := G) j ⟨(T j).gen + 1, true, k, i, qm⟩ (HP.out.kept k4) hn hp
          rw [HWR.out]
          exact this)
        have CB : Hid (∀ v : World, Calls Tryd.prog 29 #[.int .i64 j, .int .i64 (IntKind.i64.wrap ((((T j).gen : Nat) : Int) + 1)), .int .i64 (qm : Nat)] v fun e w' => e = .returned (.int .u64 (hbits j ((T j).gen + 1) qm : Nat)) ∧ v = w') := Lib.hid fun v => by
          have := rbits5 j ((T j).gen + 1) qm v (by omega) (by omega) hm2
          rw [HWR.out]
          exact this
        have hrj : r < wo.drew.heap.size := by omega
        have qg : ((T j).gen : Int) + 1 < 9223372036854775808 := by omega
        clear kd k4 b0 k3
        go_region_held3 (fun w' => w'.cell? ⟨w.heap.size, 0, none⟩ = some (.slice (some ⟨r, 0, none⟩) n cp) ∧ w'.cell? ⟨w.heap.size, 0 + 1, none⟩ = some (.int .i64 (G : Nat)) ∧ w'.cell? ⟨pb, 0, none⟩ = some (.int .i64 ((T j).gen : Nat)) ∧ w'.cell? ⟨w.heap.size + 1, 0, none⟩ = some (.int .i64 k) ∧ w'.cell? ⟨w.heap.size + 1, 0 + 1, none⟩ = some (.int .i64 i) ∧ w'.cell? ⟨w.heap.size + 1, 0 + 2, none⟩ = some (.int .i64 (qm : Nat))) (first | exact ⟨h0, h1, hb, m0, m1, m2⟩ | exact ⟨h0', h1', hb', m0', m1', m2'⟩ | exact ⟨(set_far5 _ _ _ _ _ _ (Or.inl (by omega))).trans ((set_far5 _ _ _ _ _ _ (Or.inl (by omega))).trans h0'), (set_far5 _ _ _ _ _ _ (Or.inl (by omega))).trans ((set_far5 _ _ _ _ _ _ (Or.inl (by omega))).trans h1'), (set_far5 _ _ _ _ _ _ (Or.inl (by omega))).trans ((set_far5 _ _ _ _ _ _ (Or.inl (by omega))).trans hb'), (set_far5 _ _ _ _ _ _ (Or.inl (by omega))).trans ((set_far5 _ _ _ _ _ _ (Or.inl (by omega))).trans m0'), (set_far5 _ _ _ _ _ _ (Or.inl (by omega))).trans ((set_far5 _ _ _ _ _ _ (Or.inl (by omega))).trans m1'), (set_far5 _ _ _ _ _ _ (Or.inl (by omega))).trans ((set_far5 _ _ _ _ _ _ (Or.inl (by omega))).trans m2')⟩)
          (first
            | (go_at_call 28; with_reducible refine CW.out.mono ?_; rintro e w7 ⟨r', cp', rfl, k7, hr', P7⟩; have h0' := (k7.cell_far ⟨w.heap.size, 0, none⟩ (show w.heap.size < _ by omega) (by simp)).trans h0; have h1' := (k7.cell_far ⟨w.heap.size, 0 + 1, none⟩ (show w.heap.size < _ by omega) (by simp)).trans h1; have hb' := (k7.cell_far ⟨pb, 0, none⟩ hwo (by simp)).trans hb; have m0' := (k7.cell_far ⟨w.heap.size + 1, 0, none⟩ (show w.heap.size + 1 < _ by omega) (by simp)).trans m0; have m1' := (k7.cell_far ⟨w.heap.size + 1, 0 + 1, none⟩ (show w.heap.size + 1 < _ by omega) (by simp)).trans m1; have m2' := (k7.cell_far ⟨w.heap.size + 1, 0 + 2, none⟩ (show w.heap.size + 1 < _ by omega) (by simp)).trans m2; have k8 := K4.out.trans k7; have v0 : w7.cell? ⟨w.heap.size + 1 + 1, 0, none⟩ = some (.slice none 0 0) := (k8.cell_far ⟨w.heap.size + 1 + 1, 0, none⟩ (show w.heap.size + 1 + 1 < _ by omega) (by simp)).trans u0; have v1 : w7.cell? ⟨w.heap.size + 1 + 1, 0 + 1, none⟩ = some (.int .i64 0) := (k8.cell_far ⟨w.heap.size + 1 + 1, 0 + 1, none⟩ (show w.heap.size + 1 + 1 < _ by omega) (by simp)).trans u1; have v2 : w7.frozen? ⟨w.heap.size + 1 + 1, 0, none⟩ = false := (k8.frozen_far ⟨w.heap.size + 1 + 1, 0, none⟩ (show w.heap.size + 1 + 1 < _ by omega) (by simp)).trans (f0 0); have v3 : w7.frozen? ⟨w.heap.size + 1 + 1, 0 + 1, none⟩ = false := (k8.frozen_far ⟨w.heap.size + 1 + 1, 0 + 1, none⟩ (show w.heap.size + 1 + 1 < _ by omega) (by simp)).trans (f0 (0 + 1)); have v4 : (w7.setCell ⟨w.heap.size + 1 + 1, 0, none⟩ (.slice (some ⟨r', 0, none⟩) n cp')).cell? ⟨w.heap.size + 1 + 1, 0 + 1, none⟩ = some (.int .i64 0) := (set_far5 _ _ _ _ _ _ (Or.inr (by omega))).trans v1; have v5 : (w7.setCell ⟨w.heap.size + 1 + 1, 0, none⟩ (.slice (some ⟨r', 0, none⟩) n cp')).frozen? ⟨w.heap.size + 1 + 1, 0 + 1, none⟩ = false := (World.frozen?_setCell ..).trans v3)
            | (go_at_call 29; with_reducible refine (CB.out _).mono ?_; rintro e w' ⟨rfl, rfl⟩))
        have FIN := Lib.hid (put2_fin (G := G) (cp := cp') (KK.out.trans k8) (show w.heap.size ≤ w.heap.size + 1 + 1 by omega) v0 v1 P7 (show r' ≠ w.heap.size + 1 + 1 by omega))
        have hr'' : w.heap.size ≤ r' := by omega
        clear h0 h1 hb m0 m1 m2 h0' h1' hb' m0' m1' m2' v0 v1 v2 v3 v4 v5 CW CB t0 t1 u0 u1 f0 q0 q1 q2
        go_wp2
        obtain ⟨g0, g1, g2, g3⟩ := FIN.out
        unfold put2 at g0 g1 g2 g3
        exact bodyPost_ret (v := .tuple #[.agg #[.slice (some ⟨r', 0, none⟩) n cp', .int .i64 (G : Nat)], .int .u64 (hbits j ((T j).gen + 1) qm : Nat), .int .i64 0]) (by simp [results, Tryd.results10, go_sem, g1, g2]) rfl (by
          have hq := HQM.out
          subst hq
          first | exact ⟨r', cp', rfl, g0, Or.inr hr'', g3⟩ | exact ⟨r', ⟨cp', rfl⟩, g0, Or.inr hr'', g3⟩)
end
end Go.Proofs.YtbkjdbimkofceaaDoor
